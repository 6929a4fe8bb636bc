import copy
import itertools
import unittest

from copiedhouse.termreader import read_term
from copiedhouse.told import value_of_three
from tests.samples import WIDE, LetBy, nested, num, op, second_value

LAST = WIDE - 1
NUMBERS = (0, 1, 2, 3, 65536, LAST - 1, LAST)


def value(text, was=0, mine=0, yours=0):
    return value_of_three(read_term(text, True), was, mine, yours)


class EachSort(unittest.TestCase):
    def test_a_num(self):
        for k in NUMBERS:
            self.assertEqual(value_of_three(num(k), 5, 6, 7), k)

    def test_the_three(self):
        self.assertEqual([value(text, 5, 6, 7) for text in ("was", "mine", "yours")], [5, 6, 7])
        self.assertEqual([value(text, LAST, 0, 1) for text in ("was", "mine", "yours")], [LAST, 0, 1])

    def test_signs(self):
        self.assertEqual([value(f"({sign} mine yours)", 9, 7, 3) for sign in "+-*<="], [10, 4, 21, 0, 0])
        self.assertEqual([value(f"({sign} mine yours)", 9, 3, 7) for sign in "+-*<="], [10, WIDE - 4, 21, 1, 0])
        self.assertEqual([value(f"({sign} mine yours)", 9, 5, 5) for sign in "+-*<="], [10, 0, 25, 0, 1])

    def test_the_rest_by_wide(self):
        self.assertEqual(value("(+ mine 1)", mine=LAST), 0)
        self.assertEqual(value("(+ mine yours)", mine=LAST, yours=LAST), LAST - 1)
        self.assertEqual(value("(* mine yours)", mine=LAST, yours=LAST), 1)
        self.assertEqual(value("(* 65536 65536)"), 0)
        self.assertEqual(value("(* 65537 65535)"), LAST)

    def test_below_0_the_rest_is_taken_ahead_of_all_that_follows(self):
        self.assertEqual(value("(- 0 1)"), LAST)
        self.assertEqual(value("(- was mine)", 3, 5, 0), WIDE - 2)
        self.assertEqual(value("(< (- 0 1) 1)"), 0)
        self.assertEqual(value("(< 1 (- 0 1))"), 1)
        self.assertEqual(value("(= (- 0 1) 4294967295)"), 1)
        self.assertEqual(value("(< (+ 4294967295 1) 1)"), 1)
        self.assertEqual(value("(= (* 65536 65536) 0)"), 1)
        self.assertEqual(value("(+ (- 0 1) 1)"), 0)
        self.assertEqual(value("(if (- 0 1) 7 8)"), 7)
        self.assertEqual(value("(if (+ 4294967295 1) 7 8)"), 8)

    def test_an_if(self):
        self.assertEqual(value("(if was mine yours)", 0, 5, 6), 6)
        for guard in (1, 2, LAST):
            self.assertEqual(value("(if was mine yours)", guard, 5, 6), 5)
        self.assertEqual(value("(if (= 1 1) (if 0 1 2) 3)"), 2)
        self.assertEqual(value("(if (if 1 0 1) 4 (if 1 5 6))"), 5)

    def test_not_yet_taken_by_any_n(self):
        self.assertEqual(value("(+ mine (+ yours was))", 4, 4, 4), 12)
        self.assertEqual(value("(- mine yours)", 0, 0, 1), LAST)

    def test_deeper_than_most(self):
        self.assertEqual(value_of_three(nested(20, ("mine",)), 0, 11, 0), value_of_three(nested(20, num(11)), 0, 0, 0))


def second(term, was, mine, yours):
    return second_value(term, {"was": was, "mine": mine, "yours": yours}.get)


class ManyTerms(unittest.TestCase):
    def test_as_another_way_tells(self):
        maker = LetBy(11)
        for _ in range(150):
            term = maker.told_term(4)
            before = copy.deepcopy(term)
            for three in itertools.product((0, 1, 4, LAST), repeat=3):
                told = value_of_three(term, *three)
                self.assertEqual(told, second(term, *three), term)
                self.assertIs(type(told), int)
                self.assertTrue(0 <= told < WIDE)
                self.assertEqual(value_of_three(term, *three), told)
            self.assertEqual(term, before)

    def test_each_sign_at_all_edges(self):
        for sign, one, other in itertools.product("+-*<=", NUMBERS, NUMBERS):
            term = op(sign, ("mine",), ("yours",))
            self.assertEqual(value_of_three(term, 0, one, other), second(term, 0, one, other))


if __name__ == "__main__":
    unittest.main()
