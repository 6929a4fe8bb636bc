import copy
import unittest

from copiedhouse.writer import show, show_term
from tests.samples import COMMON_TERMS, OPEN_TERMS, TOLD_TERMS, WHOLE, WHOLE_TEXT, WIDE, brackets, num, op, shelf


def one_shelf(*of_shelf):
    return ((of_shelf,), ())


def one_row(row):
    return ((), (("h", (row,)),))


class Terms(unittest.TestCase):
    def test_each_term_has_its_text(self):
        for term, text in COMMON_TERMS + OPEN_TERMS + TOLD_TERMS:
            self.assertEqual(show_term(term), text)
            self.assertIs(type(show_term(term)), str)

    def test_terms_deep_within_one_another(self):
        term = num(1)
        for many in range(1, 26):
            term = op("+", num(1), term)
            self.assertEqual(show_term(term), brackets(many))


class Shelves(unittest.TestCase):
    def test_last_and_sum(self):
        for manner in ("last", "sum"):
            for begin in (0, 1, 10, WIDE - 1):
                self.assertEqual(show(one_shelf("s", (manner,), begin)), f"shelf s {manner} {begin}")

    def test_bags(self):
        self.assertEqual(show(one_shelf("s", ("bag",), ())), "shelf s bag")
        self.assertEqual(show(one_shelf("s", ("bag",), (("w", 1),))), "shelf s bag w 1")
        bag = (("a", -1), ("bag", 999999999), ("z", -999999999))
        self.assertEqual(show(one_shelf("s", ("bag",), bag)), "shelf s bag a -1 bag 999999999 z -999999999")

    def test_rows(self):
        self.assertEqual(show(one_shelf("s", ("row",), ())), "shelf s row")
        self.assertEqual(show(one_shelf("s", ("row",), ("w",))), "shelf s row w")
        self.assertEqual(show(one_shelf("row", ("row",), ("z", "a", "a", "row"))), "shelf row row z a a row")

    def test_told_has_its_n_ahead_of_its_begin(self):
        self.assertEqual(show(one_shelf("s", ("told", 5, ("yours",)), 3)), "shelf s told 5 3 yours")
        term = op("+", ("was",), op("*", ("mine",), num(2)))
        self.assertEqual(show(one_shelf("told", ("told", 2, term), 0)), "shelf told told 2 0 (+ was (* mine 2))")


class Rows(unittest.TestCase):
    def test_each_row(self):
        term = op("<", shelf("a"), num(3))
        for row, text in (
            (("set", "s", term), "set s (< a 3)"),
            (("more", "s", term), "more s (< a 3)"),
            (("in", "s", "w"), "in s w"),
            (("out", "s", "w"), "out s w"),
            (("lay", "s", term, "w"), "lay s (< a 3) w"),
            (("drop", "s", term), "drop s (< a 3)"),
            (("tell", term), "tell (< a 3)"),
            (("split", "k"), "split k"),
            (("join", "k"), "join k"),
        ):
            self.assertEqual(show(one_row(row)), "hand h\n" + text)
            if row[0] not in ("split", "join"):
                self.assertEqual(show(one_row(("when", term, row))), "hand h\nwhen (< a 3) " + text)
                self.assertEqual(show(one_row(("when", shelf("g"), row))), "hand h\nwhen g " + text)
                self.assertEqual(show(one_row(("when", num(0), row))), "hand h\nwhen 0 " + text)

    def test_words_like_words_of_the_texts(self):
        row = ("when", shelf("when"), ("lay", "lay", shelf("set"), "tell"))
        self.assertEqual(show(one_row(row)), "hand h\nwhen when lay lay set tell")
        self.assertEqual(show(one_row(("join", "join"))), "hand h\njoin join")


class Programs(unittest.TestCase):
    def test_the_whole(self):
        self.assertEqual(show(WHOLE), WHOLE_TEXT)

    def test_no_shelves_and_no_hands(self):
        self.assertEqual(show(((), ())), "")

    def test_shelves_alone_and_hands_alone(self):
        self.assertEqual(show(((("a", ("last",), 1), ("b", ("row",), ())), ())), "shelf a last 1\nshelf b row")
        self.assertEqual(show(((), (("a", ()), ("b", ()), ("a", ())))), "hand a\nhand b\nhand a")

    def test_programs_that_are_not_let_by(self):
        program = ((("a", ("bag",), ()), ("a", ("bag",), ())), (("h", (("join", "z"), ("split", "h"))), ("h", ())))
        self.assertEqual(show(program), "shelf a bag\nshelf a bag\nhand h\njoin z\nsplit h\nhand h")

    def test_asked_again_the_same_is_told_and_nothing_changed(self):
        program = copy.deepcopy(WHOLE)
        self.assertEqual(show(program), show(program))
        self.assertEqual(program, WHOLE)


if __name__ == "__main__":
    unittest.main()
