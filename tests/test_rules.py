import copy
import itertools
import unittest

from copiedhouse.rules import rule_broken
from copiedhouse.termreader import read_term
from tests.samples import LetBy, second_value

RULES = ("yours", "mine", "either", "turns")
LENGTHS = {"yours": 2, "mine": 2, "either": 3, "turns": 5}


def broken(n, text):
    """What breaks each rule, in their order."""
    return tuple(rule_broken(n, read_term(text, True), rule) for rule in RULES)


def second_broken(n, term, rule):
    """The first tuple that breaks a rule by another way: told by as many nested walks as it has numbers."""

    def f(w, m, y):
        return second_value(term, {"was": w, "mine": m, "yours": y}.get) % n

    for numbers in itertools.product(range(n), repeat=LENGTHS[rule]):
        if rule == "yours":
            w, y = numbers
            kept = f(w, w, y) == y
        elif rule == "mine":
            w, m = numbers
            kept = f(w, m, w) == m
        elif rule == "either":
            w, m, y = numbers
            kept = f(w, m, y) == f(w, y, m)
        else:
            v, w, m, a, b = numbers
            kept = f(v, f(w, m, a), b) == f(w, f(v, m, b), a)
        if not kept:
            return numbers
    return None


class EachRule(unittest.TestCase):
    def test_kept(self):
        for n in (2, 3, 4, 5):
            # As sums are joined: but numbers are taken by WIDE before they are by n.
            self.assertEqual(broken(n, f"(+ (+ mine yours) (* was {n - 1}))"), (None, None, None, None))
            self.assertEqual(broken(n, "(if (= was mine) yours mine)")[:2], (None, None))
        self.assertEqual(broken(2, "(- (+ mine yours) was)"), (None, None, None, None))
        self.assertEqual(broken(4, "(- (+ mine yours) was)"), (None, None, None, None))

    def test_yours(self):
        for n in (2, 3, 4, 5):
            self.assertEqual(broken(n, "yours")[0], None)
            self.assertEqual(broken(n, "mine")[0], (0, 1))
            self.assertEqual(broken(n, "was")[0], (0, 1))
            self.assertEqual(broken(n, "(+ yours 1)")[0], (0, 0))
            last = f"(if (= was {n - 1}) (if (= yours {n - 1}) 0 yours) yours)"
            self.assertEqual(broken(n, last)[0], (n - 1, n - 1))

    def test_mine(self):
        for n in (2, 3, 4, 5):
            self.assertEqual(broken(n, "mine")[1], None)
            self.assertEqual(broken(n, "yours")[1], (0, 1))
            self.assertEqual(broken(n, "was")[1], (0, 1))
            self.assertEqual(broken(n, "(+ mine 1)")[1], (0, 0))
            last = f"(if (= was {n - 1}) (if (= mine {n - 1}) 0 mine) mine)"
            self.assertEqual(broken(n, last)[1], (n - 1, n - 1))

    def test_either(self):
        for n in (2, 3, 4, 5):
            self.assertEqual(broken(n, "was")[2], None)
            self.assertEqual(broken(n, "3")[2], None)
            self.assertEqual(broken(n, "(* mine yours)")[2], None)
            self.assertEqual(broken(n, "mine")[2], (0, 0, 1))
            self.assertEqual(broken(n, "yours")[2], (0, 0, 1))
            last = f"(if (= was {n - 1}) (if (= mine {n - 1}) (= yours {n - 2}) 0) 0)"
            self.assertEqual(broken(n, last)[2], (n - 1, n - 2, n - 1))

    def test_turns(self):
        for n in (2, 3, 4, 5):
            self.assertEqual(broken(n, "mine")[3], None)
            self.assertEqual(broken(n, "3")[3], None)
            # The one that is joined last is there.
            self.assertEqual(broken(n, "yours")[3], (0, 0, 0, 0, 1))
            self.assertEqual(broken(n, "was")[3], (0, 1, 0, 0, 0))
            self.assertEqual(broken(n, "(+ mine was)")[3], None)
            self.assertEqual(broken(n, "(if mine mine yours)")[3], (0, 0, 0, 1, 2) if n > 2 else None)
            self.assertEqual(broken(n, "(if (< mine yours) yours mine)")[3], None)
        # No term of 2 numbers is broken first at a greater tuple.
        self.assertEqual(broken(2, "(if was yours mine)")[3], (1, 1, 0, 0, 1))

    def test_turns_tells_was_mine_and_yours_in_their_places(self):
        # v and b are of one join, w and a of the other: each term here is broken by one of them alone.
        self.assertEqual(broken(2, "(* was (+ mine yours))")[3], (0, 1, 0, 1, 0))
        self.assertEqual(broken(2, "(if yours (- 1 mine) (* was mine))")[3], (0, 0, 0, 0, 1))

    def test_the_rest_is_taken_by_n(self):
        # Numbers of n and more, before the rest is taken.
        self.assertEqual(broken(3, "(+ yours 3)")[0], None)
        self.assertEqual(broken(3, "(+ mine 300)")[1], None)
        self.assertEqual(broken(5, "(+ (* mine yours) 5)")[2], None)
        self.assertEqual(broken(3, "(if (< 2 (+ mine yours)) 1 4)"), broken(3, "1"))
        self.assertEqual(broken(5, "(* (* mine 5) 7)"), broken(5, "0"))
        # 0 less 1 is WIDE less 1, the rest of which by 3 is 0, by 5 is 0, by 2 and 4 is the last number.
        self.assertEqual(broken(3, "(- yours 1)")[0], (0, 1))
        self.assertEqual(broken(5, "(- 0 1)"), broken(5, "0"))
        self.assertEqual(broken(4, "(- 0 1)"), broken(4, "3"))

    def test_n_from_2_to_5(self):
        self.assertEqual(broken(2, "(* yours (- 3 yours))")[0], (0, 1))
        self.assertEqual([broken(n, "(if (< yours 3) yours 0)")[0] for n in (2, 3, 4, 5)], [None, None, (0, 3), (0, 3)])
        self.assertEqual([broken(n, "(if (< mine 4) mine 0)")[1] for n in (2, 3, 4, 5)], [None, None, None, (0, 4)])
        self.assertEqual([broken(n, "(* (< 2 mine) 1)")[2] for n in (2, 3, 4, 5)], [None, None, (0, 0, 3), (0, 0, 3)])


class ManyTerms(unittest.TestCase):
    def test_told_as_by_another_way(self):
        maker = LetBy(81)
        met = {rule: [0, 0] for rule in RULES}
        for _ in range(150):
            n = maker.chance.choice((2, 2, 3, 3, 4, 5))
            term = maker.told_term(maker.chance.randint(0, 3))
            for rule in RULES:
                told = rule_broken(n, term, rule)
                self.assertEqual(told, second_broken(n, term, rule), (n, term, rule))
                met[rule][told is None] += 1
                if told is not None:
                    self.assertIs(type(told), tuple)
                    self.assertEqual([type(number) for number in told], [int] * LENGTHS[rule])
        self.assertTrue(all(min(both) >= 10 for both in met.values()), met)

    def test_bounds_are_no_refusal(self):
        self.assertEqual(broken(1, "yours"), (None, None, None, None))
        self.assertEqual(broken(7, "yours"), (None, (0, 1), (0, 0, 1), (0, 0, 0, 0, 1)))

    def test_nothing_is_changed_and_the_same_is_told(self):
        term = read_term("(if (= was mine) yours mine)", True)
        before = copy.deepcopy(term)
        for rule in RULES:
            self.assertEqual(rule_broken(3, term, rule), rule_broken(3, term, rule))
        self.assertEqual(term, before)


if __name__ == "__main__":
    unittest.main()
