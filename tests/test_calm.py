import copy
import unittest

from copiedhouse.calm import crossings, is_calm
from copiedhouse.looker import look
from copiedhouse.reader import read
from copiedhouse.rules import rule_broken
from copiedhouse.runs import end_of
from copiedhouse.stories import is_story, story
from copiedhouse.writer import show
from tests.samples import WHOLE, LetBy, Places, second_ahead, second_orders, second_stretches

SHELVES = """\
shelf n last 0
shelf s sum 1
shelf b bag x 1
shelf r row a
shelf t told 3 0 yours
shelf g last 0
"""


def two(main, kid, shelves=SHELVES):
    """A program of two hands: main 0 to 2, its rows in 1, kid 3."""
    rows = ["hand main", "split kid", main, "join kid", "hand kid", kid]
    return read(shelves + "\n".join(row for row in rows if row))


class Crossings(unittest.TestCase):
    def assert_crossed(self, main, kid, shelves):
        due = [(1, 3, S) for S in shelves]
        self.assertEqual(crossings(two(main, kid)), due, (main, kid))
        self.assertEqual(crossings(two(kid, main)), due, (kid, main))
        self.assertIs(is_calm(two(main, kid)), not due)

    def test_no_crossings(self):
        self.assertEqual(crossings(read("hand m")), [])
        self.assertEqual(crossings(two("", "")), [])
        self.assert_crossed("set n 1", "", "")
        self.assert_crossed("set n 1\ntell n", "tell 5", "")
        self.assert_crossed("tell n", "tell n", "")
        self.assert_crossed("set n 1", "set g 2", "")

    def test_two_deeds(self):
        self.assert_crossed("set n 1", "set n 1", "n")
        self.assert_crossed("set t 1", "set t 1", "t")
        self.assert_crossed("lay r 0 x", "drop r 0", "r")
        self.assert_crossed("lay r 0 x", "lay r 0 x", "r")

    def test_a_deed_and_a_term(self):
        self.assert_crossed("set n 1", "tell n", "n")
        self.assert_crossed("set n 1", "set g (+ 1 (* 2 n))", "n")
        self.assert_crossed("set t 1", "more s t", "t")
        self.assert_crossed("in b x", "tell (many b x)", "b")
        self.assert_crossed("in b x", "tell (many b y)", "b")
        self.assert_crossed("drop r 0", "tell (if 0 (long r) 1)", "r")
        self.assert_crossed("drop r 0", "set g (long r)", "r")
        self.assert_crossed("more s 1", "tell s", "s")
        self.assert_crossed("set n 1", "lay r n x", "n")
        self.assert_crossed("set n 1", "drop r n", "n")

    def test_a_term_in_a_guard(self):
        self.assert_crossed("set n 1", "when n tell 1", "n")
        self.assert_crossed("set n 1", "when (= n 5) in b x", "n")
        self.assert_crossed("more s 1", "when s set g 1", "s")
        self.assert_crossed("in b x", "when (many b x) set g 1", "b")

    def test_a_deed_in_a_when(self):
        self.assert_crossed("when 0 set n 1", "set n 2", "n")
        self.assert_crossed("when 0 set n 1", "when 0 set n 2", "n")
        self.assert_crossed("when 0 set n 1", "when 0 tell n", "n")
        self.assert_crossed("when g more s 1", "when g more s 2", "")

    def test_sums_and_bags_that_are_only_added_to(self):
        self.assert_crossed("more s 1", "more s 2", "")
        self.assert_crossed("more s 1\nmore s n", "more s (* g 2)", "")
        self.assert_crossed("in b x", "out b x", "")
        self.assert_crossed("in b x\nin b y", "when g out b x", "")

    def test_the_same_where_a_term_of_one_asks(self):
        self.assert_crossed("more s 1", "more s 2\ntell s", "s")
        self.assert_crossed("more s 1", "tell s\nmore s 2", "s")
        self.assert_crossed("in b x", "in b x\nset g (many b z)", "b")
        # In a guard.
        self.assert_crossed("more s 1", "when s more s 2", "s")
        self.assert_crossed("more s 1", "more s 2\nwhen (< s 9) tell 1", "s")
        self.assert_crossed("in b x", "when (many b x) out b x", "b")
        # In the very deed.
        self.assert_crossed("more s 1", "more s s", "s")
        self.assert_crossed("more s s", "more s s", "s")
        # One alone may ask for what it adds to itself.
        self.assert_crossed("more s s\ntell s", "in b x", "")

    def test_a_row_and_a_told_shelf_are_no_sum(self):
        self.assert_crossed("lay r 5 x", "when 0 lay r 5 x", "r")
        self.assert_crossed("set t 0", "when 0 set t 0", "t")

    def test_of_one_two_in_order_of_the_shelves(self):
        self.assert_crossed("set g 1\nset n 1\nlay r 0 x\nmore s s", "tell g\ntell (long r)\ntell n\nmore s 1", "nsrg")

    def test_stretches_ahead_of_one_another_do_not_cross(self):
        program = read(SHELVES + "hand m\nset n 1\nsplit k\njoin k\nset n 3\nhand k\nset n 2\ntell n")
        self.assertEqual(crossings(program), [])
        self.assertIs(is_calm(program), True)

    def test_through_several_hands(self):
        # m: 0 to 4, k: 5 to 7, p: 8. Pal is ahead of what comes behind the join of kid, who joins it.
        text = "hand m\nset n 1\nsplit k\ntell g\njoin k\nset n 5\nhand k\nsplit p\njoin p\nhand p\nset n n"
        program = read(SHELVES + text)
        self.assertEqual(crossings(program), [])
        self.assertIs(is_calm(program), True)
        # Joined by m, it is not ahead of what comes between the two joins.
        text = "hand m\nsplit k\njoin k\nset n 5\njoin p\nset n 6\nhand k\nsplit p\nset n 7\nhand p\nset n 8"
        # m: 0 to 3, k: 4 and 5, p: 6.
        self.assertEqual(crossings(read(SHELVES + text)), [(2, 6, "n"), (5, 6, "n")])

    def test_sorted(self):
        text = "hand m\nsplit a\nsplit b\njoin a\njoin b\nhand b\nset n 1\nset g 1\nhand a\nset n 2\nset g 2"
        # m: 0 to 4, b: 5, a: 6.
        self.assertEqual(crossings(read(SHELVES + text)), [(5, 6, "n"), (5, 6, "g")])
        text = text.replace("split b\n", "split b\nset g 0\nset n 0\n")
        due = [(2, 5, "n"), (2, 5, "g"), (2, 6, "n"), (2, 6, "g"), (5, 6, "n"), (5, 6, "g")]
        self.assertEqual(crossings(read(SHELVES + text)), due)

    def test_one_hand_crosses_another_in_several_stretches(self):
        text = "hand m\nsplit a\nsplit b\nset n 1\njoin b\nset n 2\njoin a\nset n 3\nhand a\nset n 4\nhand b"
        # m: 0 to 4, a: 5.
        self.assertEqual(crossings(read(SHELVES + text)), [(2, 5, "n"), (3, 5, "n")])


def second_crossings(program):
    """The crossings by another way: for each shelf, who does what with it."""
    cut = second_stretches(program)
    pairs = second_ahead(program)
    rows_of = dict(program[1])
    asked = Places(program).asked
    told = []
    for place, (S, manner, _) in enumerate(program[0]):
        deeds, asks = set(), set()
        for number, (hand, first, last) in enumerate(cut):
            for row in rows_of[hand][first:last]:
                deed = row[2] if row[0] == "when" else row
                terms = [part for part in row[1:] + deed[1:] if isinstance(part, tuple) and part != deed]
                deeds |= {number} if deed[0] != "tell" and deed[1] == S else set()
                asks |= {number} if any(S in asked(term) for term in terms) else set()
        for one in range(len(cut)):
            for other in range(one + 1, len(cut)):
                two = {one, other}
                if (one, other) in pairs or (other, one) in pairs or not two & deeds or not two <= deeds | asks:
                    continue
                if manner in (("sum",), ("bag",)) and not two & asks:
                    continue
                told.append((one, other, place, S))
    return [(one, other, S) for one, other, _, S in sorted(told)]


class Told(unittest.TestCase):
    def calm(self, term, text):
        program = read(f"shelf t told 3 1 {term}\nhand m\n{text}")
        self.assertEqual(crossings(program), [])
        return is_calm(program)

    def test_only_the_first_hand_has_deeds_on_it(self):
        for term in ("mine", "yours", "(+ yours 1)", "2"):
            self.assertIs(self.calm(term, "set t 2"), True)
            self.assertIs(self.calm(term, "set t 2\nsplit k\njoin k\nset t t\nhand k\ntell t"), True)

    def test_another_hand_has_a_deed_on_it(self):
        text = "set t 2\nsplit k\njoin k\nhand k\nset t 1"
        for term in ("yours", "(if (= was mine) yours mine)", "(+ yours 3)", "(+ (- mine was) yours)"):
            self.assertIs(self.calm(term, text), True)
        for term in ("mine", "was", "(+ yours 1)", "2"):
            self.assertIs(self.calm(term, text), False)
            self.assertIs(self.calm(term, text.replace("set t 1", "when 0 set t 1")), False)

    def test_a_hand_deep_within(self):
        text = "split k\njoin k\nhand k\nsplit p\njoin p\nhand p\nset t 1"
        self.assertIs(self.calm("yours", text), True)
        self.assertIs(self.calm("mine", text), False)

    def test_both_are_asked_for(self):
        program = two("set n 1", "set n 2\nset t 1")
        self.assertIs(is_calm(program), False)
        program = read("shelf t told 3 1 yours\nshelf u told 2 1 mine\nhand m\nsplit k\njoin k\nhand k\nset t 1\nset u 0")
        self.assertIs(is_calm(program), False)

    def test_the_rule_yours_alone_counts(self):
        # It keeps yours, and breaks mine, either and turns.
        program = read("shelf t told 3 1 yours\nhand m\nsplit k\njoin k\nhand k\nset t 1")
        self.assertIs(is_calm(program), True)


class ManyPrograms(unittest.TestCase):
    def test_crossings_as_by_another_way(self):
        maker = LetBy(82)
        crossed = 0
        for _ in range(200):
            program = maker.program(hands=5, rows=maker.chance.choice((8, 14, 20)))
            told = crossings(program)
            self.assertEqual(told, second_crossings(program), show(program))
            crossed += len(told)
        self.assertGreater(crossed, 500)

    def kept_yours(self, program):
        told = [(S, manner) for S, manner, _ in program[0] if manner[0] == "told"]
        for S, (_, n, term) in told:
            deeds = [row[2] if row[0] == "when" else row for _, rows in program[1][1:] for row in rows]
            if any(deed[0] != "tell" and deed[1] == S for deed in deeds if deed[0] not in ("split", "join")):
                if rule_broken(n, term, "yours") is not None:
                    return False
        return True

    def calm_one(self, maker):
        """A program that perhaps is calm: few rows, and told shelves that often keep the rule."""
        keeping = (("yours",), ("if", ("op", "=", ("was",), ("mine",)), ("yours",), ("num", 1)))
        return maker.retold(maker.program(hands=4, rows=maker.chance.choice((8, 11, 14))), keeping)

    def test_of_a_calm_program_each_order_is_a_story(self):
        maker = LetBy(83)
        calm = orders = several = 0
        for _ in range(900):
            program = self.calm_one(maker)
            look(program)
            due = not second_crossings(program) and self.kept_yours(program)
            self.assertIs(is_calm(program), due, show(program))
            if not due:
                continue
            calm += 1
            self.assertEqual(end_of(program)[0], "house", show(program))
            all_orders = second_orders(program)[:300]
            self.assertEqual(story(program, 1), ("story", all_orders[0]))
            for order in all_orders[:: max(1, len(all_orders) // 15)]:
                self.assertTrue(is_story(program, order), show(program))
                orders += 1
            several += len(all_orders) > 5 and len(program[0]) > 2
        self.assertGreater(calm, 80)
        self.assertGreater(several, 15)
        self.assertGreater(orders, 300)

    def test_greater_programs_of_texts(self):
        letters = "abcdefghijklmnopqrstuvwxyz"
        words = ["h" + one + other for one in letters for other in letters][:300]
        lines = ["shelf n sum 0", "hand m"] + ["split " + word for word in words] + ["join " + word for word in words]
        for word in words:
            lines.extend(["hand " + word, "more n 1"])
        self.assertIs(is_calm(read("\n".join(lines))), True)
        lines = [line.replace("more n 1", "more n n") for line in lines]
        self.assertEqual(len(crossings(read("\n".join(lines)))), 300 * 299 // 2)


class ToldAndHandedIn(unittest.TestCase):
    def test_kinds_and_new_lists(self):
        program = two("set n 1", "set n 2")
        told = crossings(program)
        self.assertIs(type(told), list)
        self.assertEqual([[type(part) for part in one] for one in told], [[int, int, str]])
        self.assertIs(type(told[0]), tuple)
        told.clear()
        self.assertEqual(crossings(program), [(1, 3, "n")])

    def test_nothing_is_changed_and_the_same_is_told(self):
        for program in (WHOLE, two("set n 1", "set n 2"), two("", "set t 2")):
            before = copy.deepcopy(program)
            self.assertEqual(crossings(program), crossings(program))
            self.assertEqual(is_calm(program), is_calm(program))
            self.assertEqual(program, before)


if __name__ == "__main__":
    unittest.main()
