import copy
import random
import unittest

from copiedhouse.bags import bag_with, bags_added, bags_less, many_of
from tests.samples import only_plain

NONE = ()
SOME = (("apple", 2), ("nut", -3), ("pear", 1))
BIG = 999999999


class ManyOf(unittest.TestCase):
    def test_as_many_as_its_number_tells(self):
        self.assertEqual([many_of(SOME, word) for word in ("apple", "nut", "pear")], [2, -3, 1])
        self.assertEqual(many_of((("a", BIG), ("b", -BIG)), "b"), -BIG)

    def test_a_word_that_is_not_there(self):
        for word in ("a", "applf", "app", "plum", "zebra"):
            self.assertEqual(many_of(SOME, word), 0)
            self.assertIs(type(many_of(SOME, word)), int)
        self.assertEqual(many_of(NONE, "apple"), 0)


class BagWith(unittest.TestCase):
    def test_more_of_a_word_that_is_there(self):
        self.assertEqual(bag_with(SOME, "apple", 1), (("apple", 3), ("nut", -3), ("pear", 1)))
        self.assertEqual(bag_with(SOME, "nut", 1), (("apple", 2), ("nut", -2), ("pear", 1)))
        self.assertEqual(bag_with(SOME, "pear", 40), (("apple", 2), ("nut", -3), ("pear", 41)))

    def test_a_word_that_is_not_there_stands_where_it_rises(self):
        self.assertEqual(bag_with(SOME, "aa", 1), (("aa", 1),) + SOME)
        self.assertEqual(bag_with(SOME, "bb", 1), SOME[:1] + (("bb", 1),) + SOME[1:])
        self.assertEqual(bag_with(SOME, "zz", -1), SOME + (("zz", -1),))
        self.assertEqual(bag_with(NONE, "w", 5), (("w", 5),))
        self.assertEqual(bag_with((("ab", 1),), "a", 1), (("a", 1), ("ab", 1)))

    def test_numbers_below_0(self):
        self.assertEqual(bag_with(SOME, "apple", -1), (("apple", 1), ("nut", -3), ("pear", 1)))
        self.assertEqual(bag_with(SOME, "apple", -5), (("apple", -3), ("nut", -3), ("pear", 1)))
        self.assertEqual(bag_with(NONE, "w", -1), (("w", -1),))

    def test_a_word_of_which_there_come_to_be_0_falls_out(self):
        self.assertEqual(bag_with(SOME, "apple", -2), SOME[1:])
        self.assertEqual(bag_with(SOME, "nut", 3), (SOME[0], SOME[2]))
        self.assertEqual(bag_with((("w", 1),), "w", -1), NONE)

    def test_put_in_0_times(self):
        self.assertEqual(bag_with(SOME, "apple", 0), SOME)
        self.assertEqual(bag_with(SOME, "plum", 0), SOME)
        self.assertEqual(bag_with(NONE, "w", 0), NONE)

    def test_numbers_beyond_nine_figures(self):
        self.assertEqual(bag_with((("w", BIG),), "w", BIG), (("w", 2 * BIG),))
        self.assertEqual(bag_with(NONE, "w", -(2**70)), (("w", -(2**70)),))


class BagsAddedAndLess(unittest.TestCase):
    def test_word_by_word(self):
        other = (("apple", 1), ("nut", 1), ("plum", 4))
        self.assertEqual(bags_added(SOME, other), (("apple", 3), ("nut", -2), ("pear", 1), ("plum", 4)))
        self.assertEqual(bags_less(SOME, other), (("apple", 1), ("nut", -4), ("pear", 1), ("plum", -4)))
        self.assertEqual(bags_less(other, SOME), (("apple", -1), ("nut", 4), ("pear", -1), ("plum", 4)))

    def test_words_of_which_there_come_to_be_0_fall_out(self):
        self.assertEqual(bags_added(SOME, (("apple", -2), ("pear", -1))), (("nut", -3),))
        self.assertEqual(bags_less(SOME, (("nut", -3),)), (("apple", 2), ("pear", 1)))
        self.assertEqual(bags_less(SOME, SOME), NONE)
        self.assertEqual(bags_added(SOME, (("apple", -2), ("nut", 3), ("pear", -1))), NONE)

    def test_the_empty_bag(self):
        self.assertEqual(bags_added(SOME, NONE), SOME)
        self.assertEqual(bags_added(NONE, SOME), SOME)
        self.assertEqual(bags_less(SOME, NONE), SOME)
        self.assertEqual(bags_less(NONE, SOME), (("apple", -2), ("nut", 3), ("pear", -1)))
        self.assertEqual(bags_added(NONE, NONE), NONE)
        self.assertEqual(bags_less(NONE, NONE), NONE)

    def test_words_that_go_between(self):
        one = (("b", 1), ("d", 1))
        self.assertEqual(bags_added(one, (("a", 1), ("c", 1), ("e", 1))), tuple((word, 1) for word in "abcde"))
        self.assertEqual(bags_added((("c", 1),), (("b", 1), ("bb", 1))), (("b", 1), ("bb", 1), ("c", 1)))


class ManyBags(unittest.TestCase):
    def numbers(self, bag):
        return {word: many_of(bag, word) for word in "abcde"}

    def test_bags_are_numbers_of_words(self):
        chance = random.Random(1)
        bags = []
        for _ in range(60):
            numbers = {word: chance.randint(-2, 2) for word in "abcde"}
            bags.append(tuple((word, many) for word, many in numbers.items() if many))
            self.assertEqual(self.numbers(bags[-1]), numbers)
        for one in bags:
            for other in bags:
                added, less = bags_added(one, other), bags_less(one, other)
                for bag in (added, less):
                    self.assertTrue(only_plain(bag))
                    self.assertTrue(all(many for _, many in bag))
                    self.assertEqual([word for word, _ in bag], sorted({word for word, _ in bag}))
                ones, others = self.numbers(one), self.numbers(other)
                self.assertEqual(self.numbers(added), {word: ones[word] + others[word] for word in "abcde"})
                self.assertEqual(self.numbers(less), {word: ones[word] - others[word] for word in "abcde"})
                self.assertEqual(bags_added(less, other), one)

    def test_nothing_is_changed_and_the_same_is_told(self):
        before = copy.deepcopy(SOME)
        for _ in range(2):
            self.assertEqual(bag_with(SOME, "nut", 3), (("apple", 2), ("pear", 1)))
            self.assertEqual(bags_less(SOME, (("pear", 1),)), (("apple", 2), ("nut", -3)))
            self.assertEqual(many_of(SOME, "nut"), -3)
            self.assertEqual(SOME, before)


if __name__ == "__main__":
    unittest.main()
