import copy
import unittest

from copiedhouse.lists import deeds_on, hand_named, in_split_order, inner_hands, shelf_named, split_at
from copiedhouse.reader import read
from tests.samples import WHOLE, only_plain

# The hands stand in another order than that in which they are split, and that in which they are joined:
# one splits two, four and six; two splits three and five; five splits seven.
TREE = read("""\
shelf one sum 0
hand one
split two
split four
tell 1
split six
join six
join two
join five
join four
hand seven
more one 1
hand six
hand five
tell 1
split seven
tell 2
join seven
hand four
hand three
hand two
tell 0
split three
split five
join three""")

# Each hand splits and joins the next one, and the hands stand the other way round behind the first.
CHAIN = read("""\
hand a
split b
join b
hand e
tell 5
hand d
split e
join e
hand c
split d
join d
hand b
split c
join c""")

# Hands, shelves and things are called alike; main does deeds of all sorts.
ALIKE = read("""\
shelf a last 0
shelf b sum 0
shelf c bag
shelf d row
shelf e told 2 0 yours
hand main
set a 1
tell a
split a
more b a
in c a
when a set a 2
out c a
when a out c d
lay d a a
join a
drop d (many c a)
when (= a (long d)) lay d 0 c
set e (+ a b)
when b more b (long d)
when a tell (many c d)
when a in c b
set a (+ a 1)
hand a
set a 3
in c d""")


def word_of(k):
    """The k-th of many words, all unlike."""
    letters = "abcdefghijklmnopqrstuvwxyz"
    return letters[k // 676] + letters[k // 26 % 26] + letters[k % 26]


def long_chain(many):
    """The text of a program in which each hand splits the next one and joins it again."""
    lines = []
    for k in range(many):
        lines.append("hand " + word_of(k))
        if k + 1 < many:
            lines.extend(["split " + word_of(k + 1), "join " + word_of(k + 1)])
    return "\n".join(lines)


class Named(unittest.TestCase):
    def test_each_shelf_of_a_program(self):
        for shelf in WHOLE[0]:
            self.assertEqual(shelf_named(WHOLE, shelf[0]), shelf)
            self.assertTrue(only_plain(shelf_named(WHOLE, shelf[0])))
        self.assertEqual(shelf_named(WHOLE, "nothing"), ("nothing", ("bag",), ()))
        self.assertEqual(shelf_named(WHOLE, "total"), ("total", ("sum",), 4294967295))

    def test_each_hand_of_a_program(self):
        for hand in WHOLE[1]:
            self.assertEqual(hand_named(WHOLE, hand[0]), hand)
            self.assertTrue(only_plain(hand_named(WHOLE, hand[0])))
        self.assertEqual(hand_named(WHOLE, "aunt"), ("aunt", (("in", "things", "apple"),)))
        self.assertEqual(hand_named(TREE, "six"), ("six", ()))

    def test_shelves_and_hands_called_alike(self):
        self.assertEqual(shelf_named(WHOLE, "kid"), ("kid", ("row",), ()))
        self.assertEqual(hand_named(WHOLE, "kid")[1][0], ("split", "pal"))
        self.assertEqual(shelf_named(ALIKE, "a"), ("a", ("last",), 0))
        self.assertEqual(hand_named(ALIKE, "a"), ("a", (("set", "a", ("num", 3)), ("in", "c", "d"))))


class SplitAt(unittest.TestCase):
    def test_the_first_hand_is_not_split(self):
        for program in (WHOLE, TREE, CHAIN, ALIKE):
            self.assertIsNone(split_at(program, program[1][0][0]))

    def test_the_splitter_and_its_row(self):
        self.assertEqual(split_at(WHOLE, "kid"), ("main", 0))
        self.assertEqual(split_at(WHOLE, "zed"), ("main", 2))
        self.assertEqual(split_at(WHOLE, "aunt"), ("zed", 0))
        self.assertEqual(split_at(WHOLE, "pal"), ("kid", 0))
        told = {"two": ("one", 0), "four": ("one", 1), "six": ("one", 3), "three": ("two", 1)}
        told.update({"five": ("two", 2), "seven": ("five", 1)})
        for word, place in told.items():
            self.assertEqual(split_at(TREE, word), place)
            self.assertTrue(only_plain(split_at(TREE, word)))
        self.assertEqual(split_at(ALIKE, "a"), ("main", 2))

    def test_a_join_is_no_split(self):
        program = read("hand a\nsplit b\njoin b\njoin c\nhand b\ntell 1\nsplit c\nhand c")
        self.assertEqual(split_at(program, "c"), ("b", 1))


class InSplitOrder(unittest.TestCase):
    def test_a_hand_alone(self):
        self.assertEqual(in_split_order(read("hand a")), ("a",))

    def test_behind_each_hand_all_that_are_split_from_it(self):
        self.assertEqual(in_split_order(TREE), ("one", "two", "three", "five", "seven", "four", "six"))
        self.assertEqual(in_split_order(WHOLE), ("main", "kid", "pal", "zed", "aunt"))
        self.assertEqual(in_split_order(CHAIN), ("a", "b", "c", "d", "e"))
        self.assertEqual(in_split_order(ALIKE), ("main", "a"))
        self.assertIs(type(in_split_order(TREE)), tuple)

    def test_splits_in_the_order_of_the_rows(self):
        program = read("hand m\nsplit z\nsplit a\nsplit k\njoin a\njoin k\njoin z\nhand a\nhand k\nhand z")
        self.assertEqual(in_split_order(program), ("m", "z", "a", "k"))

    def test_a_chain_of_a_thousand_hands(self):
        text = long_chain(700)
        self.assertLessEqual(len(text), 20000)
        self.assertEqual(in_split_order(read(text)), tuple(word_of(k) for k in range(700)))
        self.assertEqual(in_split_order(read(long_chain(1500))), tuple(word_of(k) for k in range(1500)))


class InnerHands(unittest.TestCase):
    def test_a_hand_that_joins_none(self):
        for word in ("three", "four", "six", "seven"):
            self.assertEqual(inner_hands(TREE, word), (word,))
        self.assertEqual(inner_hands(read("hand a"), "a"), ("a",))
        self.assertEqual(inner_hands(ALIKE, "a"), ("a",))

    def test_itself_first_then_the_others_in_order_of_the_hands(self):
        self.assertEqual(inner_hands(TREE, "one"), ("one", "seven", "six", "five", "four", "three", "two"))
        self.assertEqual(inner_hands(TREE, "two"), ("two", "three"))
        self.assertEqual(inner_hands(TREE, "five"), ("five", "seven"))
        self.assertEqual(inner_hands(WHOLE, "main"), ("main", "aunt", "zed", "pal", "kid"))
        self.assertEqual(inner_hands(WHOLE, "zed"), ("zed", "aunt"))

    def test_hands_that_are_split_but_not_joined_are_not_inner(self):
        self.assertEqual(inner_hands(WHOLE, "kid"), ("kid",))
        self.assertNotIn("five", inner_hands(TREE, "two"))

    def test_what_those_join_and_so_on(self):
        self.assertEqual(inner_hands(CHAIN, "a"), ("a", "e", "d", "c", "b"))
        self.assertEqual(inner_hands(CHAIN, "b"), ("b", "e", "d", "c"))
        self.assertEqual(inner_hands(CHAIN, "c"), ("c", "e", "d"))
        self.assertEqual(inner_hands(CHAIN, "d"), ("d", "e"))
        self.assertEqual(inner_hands(CHAIN, "e"), ("e",))
        self.assertIs(type(inner_hands(CHAIN, "e")), tuple)

    def test_a_chain_of_a_thousand_hands(self):
        words = tuple(word_of(k) for k in range(1500))
        program = read(long_chain(1500))
        self.assertEqual(inner_hands(program, words[0]), words)
        self.assertEqual(inner_hands(program, words[700]), words[700:])


class DeedsOn(unittest.TestCase):
    def test_deeds_and_whens_of_deeds(self):
        self.assertEqual(deeds_on(ALIKE, "main", "a"), [0, 5, 16])
        self.assertEqual(deeds_on(ALIKE, "main", "b"), [3, 13])
        self.assertEqual(deeds_on(ALIKE, "main", "c"), [4, 6, 7, 15])
        self.assertEqual(deeds_on(ALIKE, "main", "d"), [8, 10, 11])
        self.assertEqual(deeds_on(ALIKE, "main", "e"), [12])

    def test_of_that_hand_alone(self):
        self.assertEqual(deeds_on(ALIKE, "a", "a"), [0])
        self.assertEqual(deeds_on(ALIKE, "a", "c"), [1])
        for word in ("b", "d", "e"):
            self.assertEqual(deeds_on(ALIKE, "a", word), [])
        self.assertEqual(deeds_on(WHOLE, "main", "things"), [])
        self.assertEqual(deeds_on(WHOLE, "aunt", "things"), [0])
        self.assertEqual(deeds_on(WHOLE, "zed", "queue"), [2])

    def test_tells_splits_and_joins_are_on_no_shelf(self):
        for word in ("count", "total", "light"):
            self.assertEqual(deeds_on(WHOLE, "pal", word), [])
        program = read("shelf b last 0\nhand a\nsplit b\ntell b\nwhen b tell b\njoin b\nhand b")
        self.assertEqual(deeds_on(program, "a", "b"), [])
        self.assertEqual(deeds_on(program, "b", "b"), [])

    def test_a_list_of_whole_numbers(self):
        for shelf in ALIKE[0]:
            told = deeds_on(ALIKE, "main", shelf[0])
            self.assertIs(type(told), list)
            self.assertTrue(all(type(number) is int for number in told))

    def test_the_list_is_the_askers_own(self):
        for hand in ("main", "a"):
            for shelf in ALIKE[0]:
                told = deeds_on(ALIKE, hand, shelf[0])
                before = list(told)
                told.append(99)
                self.assertEqual(deeds_on(ALIKE, hand, shelf[0]), before)
                told.clear()
                self.assertEqual(deeds_on(ALIKE, hand, shelf[0]), before)


class AskedAgain(unittest.TestCase):
    def test_nothing_is_changed_and_the_same_is_told(self):
        for program in (WHOLE, TREE, CHAIN, ALIKE):
            before = copy.deepcopy(program)
            for hand in program[1]:
                for asked in (hand_named, split_at, inner_hands):
                    self.assertEqual(asked(program, hand[0]), asked(program, hand[0]))
                for shelf in program[0]:
                    self.assertEqual(deeds_on(program, hand[0], shelf[0]), deeds_on(program, hand[0], shelf[0]))
            self.assertEqual(in_split_order(program), in_split_order(program))
            self.assertEqual(program, before)


if __name__ == "__main__":
    unittest.main()
