import copy
import itertools
import unittest

from copiedhouse.reader import read
from copiedhouse.stretches import ahead, is_order, stretches
from tests.samples import WHOLE, LetBy, second_ahead, second_stretches

# Stretches: main 0 to 4, kid 5 to 7, pal 8, zed 9.
PROGRAM = read("""\
shelf n last 0
hand main
split kid
split zed
set n 1
tell n
join kid
tell n
join zed
hand kid
tell 1
split pal
when n tell 2
join pal
hand pal
hand zed
tell 3""")


class Cut(unittest.TestCase):
    def test_in_order(self):
        self.assertEqual(stretches(PROGRAM), [
            ("main", 0, 0), ("main", 1, 1), ("main", 2, 4), ("main", 5, 6), ("main", 7, 7),
            ("kid", 0, 1), ("kid", 2, 3), ("kid", 4, 4),
            ("pal", 0, 0),
            ("zed", 0, 1),
        ])

    def test_a_hand_without_splits_and_joins(self):
        self.assertEqual(stretches(read("hand main")), [("main", 0, 0)])
        self.assertEqual(stretches(read("hand main\ntell 1\nwhen 1 tell 2\ntell 3")), [("main", 0, 3)])

    def test_splits_and_joins_side_by_side(self):
        program = read("hand m\nsplit k\njoin k\nhand k")
        self.assertEqual(stretches(program), [("m", 0, 0), ("m", 1, 1), ("m", 2, 2), ("k", 0, 0)])
        program = read("hand m\ntell 1\nsplit k\njoin k\ntell 2\nhand k\ntell 3")
        self.assertEqual(stretches(program), [("m", 0, 1), ("m", 2, 2), ("m", 3, 4), ("k", 0, 1)])

    def test_one_more_than_splits_and_joins(self):
        maker = LetBy(75)
        for _ in range(100):
            program = maker.program(hands=7, rows=24)
            told = stretches(program)
            self.assertEqual(told, second_stretches(program))
            self.assertEqual(len(told), 3 * len(program[1]) - 2)

    def test_kinds(self):
        told = stretches(WHOLE)
        self.assertIs(type(told), list)
        for one in told:
            self.assertEqual([type(part) for part in one], [str, int, int])
            self.assertIs(type(one), tuple)
        told.clear()
        self.assertEqual(len(stretches(WHOLE)), 13)


class Ahead(unittest.TestCase):
    def test_straight(self):
        # The next one of its hand.
        self.assertIs(ahead(PROGRAM, 0, 1), True)
        self.assertIs(ahead(PROGRAM, 1, 0), False)
        self.assertIs(ahead(PROGRAM, 5, 6), True)
        # A split, at the end of a stretch.
        self.assertIs(ahead(PROGRAM, 0, 5), True)
        self.assertIs(ahead(PROGRAM, 1, 9), True)
        self.assertIs(ahead(PROGRAM, 5, 8), True)
        self.assertIs(ahead(PROGRAM, 1, 5), False)
        self.assertIs(ahead(PROGRAM, 2, 9), False)
        self.assertIs(ahead(PROGRAM, 6, 8), False)
        # A join, at the begin of one.
        self.assertIs(ahead(PROGRAM, 7, 3), True)
        self.assertIs(ahead(PROGRAM, 9, 4), True)
        self.assertIs(ahead(PROGRAM, 8, 7), True)
        self.assertIs(ahead(PROGRAM, 7, 2), False)
        self.assertIs(ahead(PROGRAM, 9, 3), False)
        self.assertIs(ahead(PROGRAM, 8, 6), False)

    def test_not_of_itself(self):
        for number in range(10):
            self.assertIs(ahead(PROGRAM, number, number), False)

    def test_through_several_hands(self):
        self.assertIs(ahead(PROGRAM, 0, 8), True)
        self.assertIs(ahead(PROGRAM, 8, 3), True)
        self.assertIs(ahead(PROGRAM, 8, 4), True)
        self.assertIs(ahead(PROGRAM, 0, 9), True)
        self.assertIs(ahead(PROGRAM, 4, 0), False)
        self.assertIs(ahead(PROGRAM, 8, 9), False)
        self.assertIs(ahead(PROGRAM, 9, 8), False)

    def test_a_hand_joined_by_another_one_than_its_splitter(self):
        program = read("hand m\nsplit k\ntell 1\njoin k\njoin p\nhand k\nsplit p\nhand p")
        # m: 0 to 3, k: 4 and 5, p: 6.
        told = [(one, other) for one in range(7) for other in range(7) if ahead(program, one, other)]
        due = {(0, 1), (1, 2), (2, 3), (0, 4), (4, 5), (5, 2), (4, 6), (6, 3)}
        due |= {(0, 2), (0, 3), (1, 3), (0, 5), (0, 6), (4, 2), (4, 3), (5, 3)}
        self.assertEqual(told, sorted(due))

    def test_many_programs(self):
        maker = LetBy(76)
        for _ in range(40):
            program = maker.program(hands=6, rows=20)
            many = len(stretches(program))
            pairs = second_ahead(program)
            for one in range(many):
                for other in range(many):
                    self.assertIs(ahead(program, one, other), (one, other) in pairs)


class Orders(unittest.TestCase):
    def test_orders(self):
        self.assertIs(is_order(PROGRAM, (0, 1, 2, 5, 6, 8, 7, 3, 9, 4)), True)
        self.assertIs(is_order(PROGRAM, (0, 5, 8, 6, 7, 1, 9, 2, 3, 4)), True)
        self.assertIs(is_order(read("hand m"), (0,)), True)

    def test_one_behind_one_that_it_is_ahead_of(self):
        self.assertIs(is_order(PROGRAM, (0, 1, 2, 5, 6, 8, 3, 7, 9, 4)), False)
        self.assertIs(is_order(PROGRAM, (1, 0, 2, 5, 6, 8, 7, 3, 9, 4)), False)
        self.assertIs(is_order(PROGRAM, (5, 0, 1, 2, 6, 8, 7, 3, 9, 4)), False)
        self.assertIs(is_order(PROGRAM, (0, 1, 2, 5, 6, 8, 7, 3, 4, 9)), False)
        self.assertIs(is_order(PROGRAM, tuple(range(10))), False)

    def test_tuples_that_are_no_order(self):
        order = (0, 1, 2, 5, 6, 8, 7, 3, 9, 4)
        for wrong in (
            (), order[:-1], order[1:], order + (10,), order + (4,), order + (0,), (0,) + order, order[:-1] + (3,),
            order[:-1] + (10,), order[:-1] + (-1,), order + (-1,), (-10,) + order[1:], tuple(k + 1 for k in order),
            order * 2, (0,), (-1,), (10 ** 30,),
        ):
            self.assertIs(is_order(PROGRAM, wrong), False, wrong)
        for wrong in ((), (1,), (-1,), (0, 0), (0, 1), (0, -1)):
            self.assertIs(is_order(read("hand m"), wrong), False, wrong)

    def test_all_tuples_of_small_programs(self):
        maker = LetBy(77)
        some = 0
        for _ in range(6):
            program = maker.program(hands=3, rows=10)
            pairs = second_ahead(program)
            many = len(stretches(program))
            for order in itertools.permutations(range(many)):
                due = not any((later, one) in pairs for one, later in itertools.combinations(order, 2))
                self.assertIs(is_order(program, order), due)
                some += due
        self.assertGreater(some, 10)


class ToldAndHandedIn(unittest.TestCase):
    def test_nothing_is_changed_and_the_same_is_told(self):
        for program in (PROGRAM, WHOLE):
            before = copy.deepcopy(program)
            order = tuple(range(len(stretches(program))))
            for _ in range(2):
                self.assertEqual(stretches(program), stretches(program))
                self.assertEqual(is_order(program, order), is_order(program, order))
                self.assertEqual(ahead(program, 0, 1), ahead(program, 0, 1))
            self.assertEqual(program, before)


if __name__ == "__main__":
    unittest.main()
