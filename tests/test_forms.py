import copy
import unittest

from copiedhouse.forms import asked_shelves, deed_of, depth, shelf_of, words_in
from tests.samples import WIDE, deeds_of_all_sorts, nested, num, op, shelf

LEAVES = (
    ("num", 0),
    ("num", 1),
    ("num", WIDE - 1),
    ("shelf", "a"),
    ("shelf", "if"),
    ("many", "b", "w"),
    ("long", "r"),
    ("was",),
    ("mine",),
    ("yours",),
)
A, B, C = shelf("a"), ("many", "b", "a"), ("long", "c")


def full(deep):
    """A term of ops that is as wide as it can be."""
    return num(1) if deep == 0 else op("*", full(deep - 1), full(deep - 1))


def thirty():
    """A term of 30 words that is 6 deep: 1, and 4, 15 and 10 in it."""
    term = op("+", A, B)
    for _ in range(4):
        term = ("if", num(0), term, C)
    four = ("if", num(1), num(2), num(3))
    return ("if", four, term, ("if", four, four, num(5)))


class WordsIn(unittest.TestCase):
    def test_a_term_without_terms_has_one_word(self):
        for term in LEAVES:
            self.assertEqual(words_in(term), 1, term)

    def test_an_op_has_one_word_more_than_its_two(self):
        for sign in "+-*<=":
            self.assertEqual(words_in(op(sign, A, B)), 3)
            self.assertEqual(words_in(op(sign, A, op(sign, B, C))), 5)
            self.assertEqual(words_in(op(sign, op(sign, A, B), C)), 5)

    def test_an_if_has_one_word_more_than_its_three(self):
        inner = op("<", A, B)
        self.assertEqual(words_in(("if", A, B, C)), 4)
        self.assertEqual(words_in(("if", inner, B, C)), 6)
        self.assertEqual(words_in(("if", A, inner, C)), 6)
        self.assertEqual(words_in(("if", A, B, inner)), 6)
        self.assertEqual(words_in(("if", inner, inner, inner)), 10)

    def test_words_are_counted_each_time(self):
        self.assertEqual(words_in(op("+", A, A)), 3)
        same = op("+", A, A)
        self.assertEqual(words_in(op("*", same, same)), 7)
        self.assertEqual(words_in(("if", same, same, same)), 10)

    def test_thirty_words_and_more(self):
        self.assertEqual(words_in(thirty()), 30)
        self.assertEqual(words_in(nested(6)), 13)
        self.assertEqual(words_in(full(6)), 127)
        self.assertEqual(words_in(nested(20)), 41)

    def test_told_terms(self):
        told = ("if", op("=", ("was",), ("mine",)), ("yours",), op("+", ("mine",), num(1)))
        self.assertEqual(words_in(told), 8)

    def test_it_is_a_whole_number(self):
        for term in LEAVES + (op("+", A, B), thirty()):
            self.assertIs(type(words_in(term)), int)


class Depth(unittest.TestCase):
    def test_a_term_without_terms_is_0_deep(self):
        for term in LEAVES:
            self.assertEqual(depth(term), 0, term)
            self.assertIs(type(depth(term)), int)

    def test_an_op_is_one_deeper_than_its_deeper_one(self):
        for sign in "+-*<=":
            self.assertEqual(depth(op(sign, A, B)), 1)
            self.assertEqual(depth(op(sign, A, nested(2))), 3)
            self.assertEqual(depth(op(sign, nested(2), A)), 3)
            self.assertEqual(depth(op(sign, nested(2), nested(4))), 5)
            self.assertEqual(depth(op(sign, nested(4), nested(2))), 5)

    def test_an_if_is_one_deeper_than_its_deepest(self):
        self.assertEqual(depth(("if", A, B, C)), 1)
        self.assertEqual(depth(("if", nested(3), nested(1), C)), 4)
        self.assertEqual(depth(("if", A, nested(3), nested(1))), 4)
        self.assertEqual(depth(("if", nested(1), B, nested(3))), 4)

    def test_six_deep_and_deeper(self):
        for deep in (0, 1, 5, 6, 7, 20, 25):
            self.assertEqual(depth(nested(deep)), deep)
        self.assertEqual(depth(full(6)), 6)
        self.assertEqual(depth(thirty()), 6)

    def test_told_terms(self):
        self.assertEqual(depth(op("+", ("was",), op("-", ("mine",), ("yours",)))), 2)


class AskedShelves(unittest.TestCase):
    def test_terms_that_ask_for_a_shelf(self):
        self.assertEqual(asked_shelves(("shelf", "a")), ("a",))
        self.assertEqual(asked_shelves(("many", "b", "w")), ("b",))
        self.assertEqual(asked_shelves(("long", "r")), ("r",))

    def test_terms_that_ask_for_none(self):
        for term in (num(0), num(5), ("was",), ("mine",), ("yours",), op("+", num(1), num(2))):
            self.assertEqual(asked_shelves(term), ())
            self.assertIs(type(asked_shelves(term)), tuple)
        self.assertEqual(asked_shelves(("if", ("was",), ("mine",), op("<", ("yours",), num(3)))), ())

    def test_the_word_of_a_many_is_no_shelf(self):
        self.assertEqual(asked_shelves(op("+", ("many", "b", "w"), ("many", "c", "b"))), ("b", "c"))

    def test_all_terms_are_asked_from_the_left(self):
        for sign in "+-*<=":
            self.assertEqual(asked_shelves(op(sign, shelf("z"), shelf("a"))), ("z", "a"))
        self.assertEqual(asked_shelves(("if", shelf("m"), ("long", "z"), ("many", "a", "w"))), ("m", "z", "a"))
        deep = op("+", op("-", shelf("d"), shelf("c")), op("*", shelf("b"), shelf("a")))
        self.assertEqual(asked_shelves(deep), ("d", "c", "b", "a"))
        uneven = ("if", op("=", shelf("q"), num(1)), shelf("b"), op("+", shelf("p"), shelf("a")))
        self.assertEqual(asked_shelves(uneven), ("q", "b", "p", "a"))

    def test_each_is_told_once_as_it_is_first_met(self):
        self.assertEqual(asked_shelves(op("+", A, A)), ("a",))
        self.assertEqual(asked_shelves(op("+", shelf("z"), op("+", A, shelf("z")))), ("z", "a"))
        self.assertEqual(asked_shelves(op("+", op("+", A, shelf("z")), A)), ("a", "z"))
        one = ("if", ("many", "b", "x"), ("many", "b", "y"), ("if", ("long", "r"), ("long", "r"), ("many", "b", "x")))
        self.assertEqual(asked_shelves(one), ("b", "r"))

    def test_shelves_called_like_words_of_the_terms(self):
        one = op("+", shelf("shelf"), op("+", ("many", "num", "op"), ("long", "long")))
        self.assertEqual(asked_shelves(one), ("shelf", "num", "long"))
        self.assertEqual(asked_shelves(("if", shelf("if"), shelf("op"), shelf("was"))), ("if", "op", "was"))

    def test_the_guard_of_a_when(self):
        row = ("when", op("<", shelf("g"), ("long", "r")), ("set", "s", shelf("t")))
        self.assertEqual(asked_shelves(row[1]), ("g", "r"))
        self.assertEqual(asked_shelves(deed_of(row)[2]), ("t",))


class DeedOf(unittest.TestCase):
    def test_a_deed_is_its_own(self):
        for deed in deeds_of_all_sorts(op("+", A, num(2))):
            self.assertEqual(deed_of(deed), deed)

    def test_of_a_when_the_deed_behind_its_guard(self):
        for guard in (num(0), shelf("when"), op("=", A, num(3))):
            for deed in deeds_of_all_sorts(op("+", A, num(2))):
                self.assertEqual(deed_of(("when", guard, deed)), deed)

    def test_a_split_or_a_join_has_none(self):
        for word in ("h", "when", "set", "split"):
            self.assertIsNone(deed_of(("split", word)))
            self.assertIsNone(deed_of(("join", word)))

    def test_deeds_on_shelves_called_like_rows(self):
        for word in ("split", "join", "when", "tell"):
            self.assertEqual(deed_of(("in", word, word)), ("in", word, word))


class ShelfOf(unittest.TestCase):
    def test_of_each_deed_its_shelf(self):
        for deed in deeds_of_all_sorts(shelf("other")):
            if deed[0] != "tell":
                self.assertEqual(shelf_of(deed), "s", deed)

    def test_a_tell_has_none(self):
        for term in (num(0), shelf("s"), ("long", "s"), op("+", shelf("s"), shelf("s"))):
            self.assertIsNone(shelf_of(("tell", term)))

    def test_of_the_deed_of_a_when(self):
        self.assertEqual(shelf_of(deed_of(("when", shelf("g"), ("lay", "r", shelf("t"), "w")))), "r")
        self.assertIsNone(shelf_of(deed_of(("when", shelf("g"), ("tell", shelf("t"))))))

    def test_a_shelf_called_like_a_deed(self):
        for word in ("tell", "set", "when", "split", "in"):
            self.assertEqual(shelf_of(("set", word, num(1))), word)
            self.assertEqual(shelf_of(("in", word, "w")), word)


class AskedAgain(unittest.TestCase):
    def test_nothing_is_changed_and_the_same_is_told(self):
        for term in LEAVES + (thirty(), nested(6), op("+", A, op("+", B, A))):
            before = copy.deepcopy(term)
            first = (words_in(term), depth(term), asked_shelves(term))
            asked_shelves(op("+", shelf("other"), shelf("more")))
            self.assertEqual((words_in(term), depth(term), asked_shelves(term)), first)
            self.assertEqual(term, before)

    def test_rows_are_not_changed(self):
        for deed in deeds_of_all_sorts(A):
            row = ("when", B, deed)
            before = copy.deepcopy(row)
            self.assertEqual(deed_of(row), deed_of(row))
            self.assertEqual(shelf_of(deed), shelf_of(deed))
            self.assertEqual(row, before)


if __name__ == "__main__":
    unittest.main()
