import unittest

from copiedhouse.errors import BadText
from copiedhouse.reader import read
from copiedhouse.writer import show
from tests.samples import COMMON_TERMS, NO_TERMS, OPEN_TERMS, TOLD_TERMS, WHOLE, WHOLE_TEXT, WIDE, brackets, only_plain

# Each place of a row in which a term may stand.
TERM_PLACES = (
    "set s {}",
    "more s {}",
    "lay s {} w",
    "drop s {}",
    "tell {}",
    "when {} set s 1",
    "when {} in s w",
    "when 1 set s {}",
    "when (+ a 1) more s {}",
    "when a lay s {} w",
    "when a drop s {}",
    "when a tell {}",
)

# Rows that stand nowhere.
NO_ROWS = (
    "", " ", "  ", "a", "1", "(", ")", "()", "(hand h)", "(shelf a last 1)", "(tell 1)", "foo a 1", "Hand h", "SHELF a last 1",
    " tell 1", "tell 1 ", "tell  1", "tell\t1", "tell 1\r", "tell", "tell ", "tell 1 2", "tell a b", "tell (1)", "tell1",
    "tell (+ 1 2", "tell (+ 1 2))", "telltale 1", "tells 1", "num 1", "op + 1 2", "last a 1", "told 2 0 was",
    " hand h", "hand h ", "hand  h", "hand", "hand ", "hand h k", "hand H", "hand 1", "hand (h)", "hand abcdefghi", "hand h 1",
    "hand (long h)", "hands h",
    "split", "split ", "split h k", "split 1", "split (h)", "split H", "split abcdefghi", " split h", "split h ", "split  h",
    "join", "join ", "join h k", "join 1", "join (h)", "join H", "join abcdefghi", " join h", "join h ", "join  h",
    "joins h", "splits h",
    "set", "set s", "set 1", "set s ", "set s 1 2", "set 1 s", "set S 1", "set (s) 1", "set abcdefghi 1", "set s 1 w",
    " set s 1", "set s 1 ", "set  s 1", "set s  1", "set (long s) 1", "set s(long r)", "set(s 1)", "setting s 1",
    "more", "more s", "more s 1 2", "more 1 s", "more S 1", "more (s) 1", "more s 1 ", "more s  1",
    "drop", "drop s", "drop s 1 w", "drop 1 s", "drop (s) 1", "drop s w 1", "drop s  1",
    "in", "in s", "in s w w", "in s 1", "in 1 w", "in S w", "in s W", "in (s) w", "in s (w)", "in s abcdefghi",
    "in s  w", "in  s w", " in s w", "in s w ", "in s (long r)", "in s w 1",
    "out", "out s", "out s w w", "out s 1", "out 1 w", "out s (w)", "out s abcdefghi", "out s  w", "out s w ",
    "lay", "lay s", "lay s 1", "lay s w", "lay s 1 2", "lay s 1 w w", "lay 1 s w", "lay s w 1", "lay (s) 1 w", "lay s 1 (w)",
    "lay s (long r)", "lay s (long r) (w)", "lay s 1  w", "lay s  1 w", "lay s 1 w ", "lay s 1 W", "lay s 1 abcdefghi",
    "lay s (+ 1 2)w", "lay s w (long r)",
    "when", "when 1", "when (+ 1 2)", "when set s 1", "when 1 2", "when 1 2 set s 1", "when 1 foo s 1", "when 1 s",
    "when 1 when 1 set s 1", "when a when a tell 1", "when 1 when tell 1", "when 1 split h", "when 1 join h",
    "when (= a 1) split h", "when (= a 1) join h", "when 1 hand h", "when 1 shelf s last 1", "when 1  set s 1",
    "when  1 set s 1", " when 1 set s 1", "when 1 set s 1 ", "when 1 (set s 1)", "when (1) set s 1", "when (a) set s 1",
    "when (+ 1 2)set s 1", "when 1set s 1", "when 1 set s", "when 1 set s 1 2", "when 1 in s", "when 1 in s w w",
    "when 1 lay s 1", "when 1 lay s 1 w w", "when 1 tell", "when 1 tell 1 2", "when (+ 1 2 set s 1", "when (+ 1 2)) set s 1",
    "when -1 set s 1", "when 4294967296 set s 1", "when A set s 1", "when set", "whenever 1 set s 1",
)

NO_SHELVES = (
    "shelf", "shelf ", "shelf a", "shelf a ", "shelf a foo", "shelf a foo 1", "shelf a LAST 1", "shelf a 1", "shelf last 1",
    " shelf a last 1", "shelf a last 1 ", "shelf  a last 1", "shelf a  last 1", "shelf a last  1", "shelf a (last) 1",
    "shelves a last 1", "shelf A last 1", "shelf 1 last 1", "shelf abcdefghi last 1", "shelf (a) last 1", "shelf a lasting 1",
    "shelf a last", "shelf a last ", "shelf a last b", "shelf a last 1 2", "shelf a last (1)", "shelf a last (+ 1 2)",
    "shelf a last -1", "shelf a last -0", "shelf a last +1", "shelf a last 01", "shelf a last 00", "shelf a last 4294967296",
    "shelf a last 9999999999", "shelf a last 10000000000", "shelf a last 00000000001", "shelf a last " + "1" * 5000,
    "shelf a sum", "shelf a sum ", "shelf a sum b", "shelf a sum 1 2", "shelf a sum (1)", "shelf a sum -1", "shelf a sum 01",
    "shelf a sum 4294967296", "shelf a sum 10000000000", "shelf a sum 1 ", "shelf a sum  1", "shelf a sum 1.0",
    "shelf a bag ", "shelf a bag w", "shelf a bag 1", "shelf a bag w w", "shelf a bag 1 w", "shelf a bag w 0",
    "shelf a bag w -0", "shelf a bag w 00", "shelf a bag w 01", "shelf a bag w -01", "shelf a bag w +1", "shelf a bag w --1",
    "shelf a bag w -", "shelf a bag w - 1", "shelf a bag w 1000000000", "shelf a bag w -1000000000",
    "shelf a bag w 4294967295", "shelf a bag w 0000000001", "shelf a bag w " + "9" * 5000, "shelf a bag w -" + "9" * 5000,
    "shelf a bag w 1 v", "shelf a bag w 1 v 1", "shelf a bag w 1 w 1", "shelf a bag w 1 w 2", "shelf a bag a 1 c 1 b 1",
    "shelf a bag a 1 b 1 b 1", "shelf a bag b 1 a 1 c 1", "shelf a bag a 1 b 1 a 1", "shelf a bag ab 1 a 1",
    "shelf a bag b 1 ab 1", "shelf a bag W 1", "shelf a bag abcdefghi 1", "shelf a bag (w 1)", "shelf a bag (w) 1",
    "shelf a bag w (1)", "shelf a bag w 1 ", "shelf a bag  w 1", "shelf a bag w  1", "shelf a bag w 1  x 1",
    "shelf a bag w 1 x", "shelf a bag w 1 x 0", "shelf a bag w 1 2", "shelf a bag w 1 2 3",
    "shelf a row ", "shelf a row 1", "shelf a row w 1", "shelf a row W", "shelf a row w ", "shelf a row  w", "shelf a row w  w",
    "shelf a row (w)", "shelf a row (w w)", "shelf a row abcdefghi", "shelf a row w abcdefghi", "shelf a row w W",
    "shelf a rows", "shelf a bags",
    "shelf a told", "shelf a told ", "shelf a told 2", "shelf a told 2 0", "shelf a told 2 0 ", "shelf a told 2 was",
    "shelf a told was", "shelf a told was 2 0", "shelf a told 2 was 0", "shelf a told 0 0 was", "shelf a told 1 0 was",
    "shelf a told 6 0 was", "shelf a told 10 0 was", "shelf a told 02 0 was", "shelf a told -2 0 was", "shelf a told 2 2 was",
    "shelf a told 2 3 was", "shelf a told 3 3 was", "shelf a told 4 4 was", "shelf a told 5 5 was", "shelf a told 5 6 was",
    "shelf a told 2 -1 was", "shelf a told 2 -0 was", "shelf a told 2 00 was", "shelf a told 2 01 was", "shelf a told 5 04 was",
    "shelf a told 2 0 was was", "shelf a told 2 0 a", "shelf a told 2 0 (was)", "shelf a told 2 0 (long r)",
    "shelf a told 2 0 (many b w)", "shelf a told 2 0 (+ was a)", "shelf a told 2 0 (+ was)", "shelf a told 2 0 was ",
    "shelf a told 2 0  was", "shelf a told 2  0 was", "shelf a told  2 0 was", "shelf a told 2 0 4294967296",
    "shelf a told (2) 0 was", "shelf a told 2 (0) was", "shelf a told b 0 was", "shelf a told 2 b was", "shelf a told 2 0 -1",
    "shelf a told 4294967296 0 was", "shelf a told " + "2" * 5000 + " 0 was",
)

GOOD_SHELF = "shelf s last 1"
GOOD_ROWS = (
    "set s 1", "more s a", "in s w", "out s w", "lay s 1 w", "drop s (long r)", "tell 1", "when a set s 1",
    "when (+ a b) tell (+ a b)", "split h", "join h",
)


def row_of(text):
    return read("hand h\n" + text)[1][0][1][0]


class Reads(unittest.TestCase):
    def reads(self, text, program):
        told = read(text)
        self.assertEqual(told, program, text)
        self.assertTrue(only_plain(told), text)
        self.assertEqual(show(told), text)

    def reads_shelf(self, text, *of_shelf):
        self.reads(text, ((of_shelf,), ()))
        self.reads(f"{text}\nshelf b sum 1\nhand h", ((of_shelf, ("b", ("sum",), 1)), (("h", ()),)))

    def test_the_whole(self):
        self.reads(WHOLE_TEXT, WHOLE)

    def test_the_text_without_signs(self):
        self.reads("", ((), ()))

    def test_shelves_alone(self):
        self.reads("shelf a last 1\nshelf a last 1", ((("a", ("last",), 1), ("a", ("last",), 1)), ()))

    def test_hands_alone(self):
        self.reads("hand a", ((), (("a", ()),)))
        self.reads("hand a\nhand b\nhand a", ((), (("a", ()), ("b", ()), ("a", ()))))
        self.reads("hand a\ntell 1\nhand b\nhand c\ntell 2\ntell 3", (
            (),
            (("a", (("tell", ("num", 1)),)), ("b", ()), ("c", (("tell", ("num", 2)), ("tell", ("num", 3))))),
        ))

    def test_last_and_sum(self):
        for manner in ("last", "sum"):
            for begin in (0, 1, 9, 10, 999999999, 1000000000, WIDE - 1):
                self.reads_shelf(f"shelf a {manner} {begin}", "a", (manner,), begin)

    def test_bags(self):
        self.reads_shelf("shelf a bag", "a", ("bag",), ())
        self.reads_shelf("shelf a bag w 1", "a", ("bag",), (("w", 1),))
        self.reads_shelf("shelf a bag w -1", "a", ("bag",), (("w", -1),))
        edges = (("a", 999999999), ("aa", -999999999), ("ab", 10), ("b", -10))
        self.reads_shelf("shelf a bag a 999999999 aa -999999999 ab 10 b -10", "a", ("bag",), edges)

    def test_rows_of_shelves(self):
        self.reads_shelf("shelf a row", "a", ("row",), ())
        self.reads_shelf("shelf a row w", "a", ("row",), ("w",))
        self.reads_shelf("shelf a row z w w a abcdefgh", "a", ("row",), ("z", "w", "w", "a", "abcdefgh"))

    def test_told(self):
        for n in (2, 3, 4, 5):
            for begin in range(n):
                self.reads_shelf(f"shelf a told {n} {begin} was", "a", ("told", n, ("was",)), begin)
        for term, text in COMMON_TERMS + TOLD_TERMS:
            self.reads_shelf(f"shelf a told 3 1 {text}", "a", ("told", 3, term), 1)

    def test_each_row(self):
        a, one = ("shelf", "a"), ("num", 1)
        for text, row in (
            ("set s 1", ("set", "s", one)),
            ("more s a", ("more", "s", a)),
            ("in s w", ("in", "s", "w")),
            ("out s w", ("out", "s", "w")),
            ("lay s a w", ("lay", "s", a, "w")),
            ("drop s 1", ("drop", "s", one)),
            ("tell a", ("tell", a)),
        ):
            self.reads("hand h\n" + text, ((), (("h", (row,)),)))
            self.reads("hand h\nwhen a " + text, ((), (("h", (("when", a, row),)),)))
            guard = ("op", "<", a, ("long", "r"))
            self.reads("hand h\nwhen (< a (long r)) " + text, ((), (("h", (("when", guard, row),)),)))
        self.reads("hand h\nsplit k\njoin k", ((), (("h", (("split", "k"), ("join", "k"))),)))

    def test_each_term_in_each_place(self):
        for place in TERM_PLACES:
            for term, text in COMMON_TERMS + OPEN_TERMS:
                row = row_of(place.format(text))
                parts = row + row[2] if row[0] == "when" else row
                self.assertIn(term, parts)
                self.assertTrue(only_plain(row))
                self.assertEqual(show(((), (("h", (row,)),))), "hand h\n" + place.format(text))

    def test_words_of_eight_letters(self):
        eight = "abcdefgh"
        text = f"shelf {eight} bag {eight} 1\nhand {eight}\nin {eight} {eight}\nsplit {eight}\ntell {eight}"
        rows = (("in", eight, eight), ("split", eight), ("tell", ("shelf", eight)))
        self.reads(text, (((eight, ("bag",), ((eight, 1),)),), ((eight, rows),)))

    def test_words_like_words_of_the_texts(self):
        self.reads("shelf shelf last 1", ((("shelf", ("last",), 1),), ()))
        self.reads("shelf last last 1", ((("last", ("last",), 1),), ()))
        self.reads("shelf told told 2 1 was", ((("told", ("told", 2, ("was",)), 1),), ()))
        self.reads("shelf bag bag bag 1", ((("bag", ("bag",), (("bag", 1),)),), ()))
        self.reads("shelf row row row hand shelf", ((("row", ("row",), ("row", "hand", "shelf")),), ()))
        self.reads("hand hand\nhand shelf\nhand set", ((), (("hand", ()), ("shelf", ()), ("set", ()))))
        self.assertEqual(row_of("set set set"), ("set", "set", ("shelf", "set")))
        self.assertEqual(row_of("in in in"), ("in", "in", "in"))
        self.assertEqual(row_of("lay lay lay lay"), ("lay", "lay", ("shelf", "lay"), "lay"))
        self.assertEqual(row_of("tell tell"), ("tell", ("shelf", "tell")))
        self.assertEqual(row_of("split split"), ("split", "split"))
        self.assertEqual(row_of("join when"), ("join", "when"))
        self.assertEqual(row_of("when when tell when"), ("when", ("shelf", "when"), ("tell", ("shelf", "when"))))
        self.assertEqual(row_of("when set set set set"), ("when", ("shelf", "set"), ("set", "set", ("shelf", "set"))))
        self.assertEqual(row_of("when split in join w"), ("when", ("shelf", "split"), ("in", "join", "w")))

    def test_programs_that_are_not_let_by(self):
        text = "shelf a bag\nshelf a row\nhand h\nsplit h\njoin z\nset b (long c)\nmore a 1\nhand h\nsplit h"
        self.assertEqual(show(read(text)), text)
        self.assertTrue(only_plain(read(text)))

    def test_twenty_brackets(self):
        for place in TERM_PLACES:
            row = place.format(brackets(20))
            self.assertEqual(show(((), (("h", (row_of(row),)),))), "hand h\n" + row)
        text = "shelf a told 2 0 " + brackets(20, "was")
        self.assertEqual(show(read(text)), text)

    def test_greater_programs_than_are_handed_in_elsewhere(self):
        words = [one + other for one in "abcdefghij" for other in "abcdefghij"]
        lines = [f"shelf {word} sum 1" for word in words]
        lines.append("shelf big bag " + " ".join(f"{word} 999999999" for word in words))
        lines.append("shelf long row " + " ".join(words))
        lines.append("shelf told told 5 4 " + "(+ was " * 19 + "(* mine yours)" + ")" * 19)
        for word in words:
            lines.extend([f"hand {word}", "tell 1"])
        lines.extend(["tell (+ 1 (+ 2 (+ 3 4)))"] * 300)
        text = "\n".join(lines)
        self.assertTrue(10000 < len(text) <= 20000)
        program = read(text)
        self.assertEqual((len(program[0]), len(program[1]), len(program[1][-1][1])), (103, 100, 301))
        self.assertEqual(show(program), text)
        self.assertTrue(only_plain(program))

    def test_texts_somewhat_longer_than_20000_signs(self):
        text = "hand h\n" + "\n".join(["tell 12345"] * 2000)
        self.assertGreater(len(text), 20000)
        self.assertEqual(show(read(text)), text)

    def test_asked_again_the_same_is_told(self):
        self.assertEqual(read(WHOLE_TEXT), read(WHOLE_TEXT))
        read("shelf other row\nhand other\ntell 1")
        self.assertEqual(read(WHOLE_TEXT), WHOLE)
        self.assertEqual(read(""), ((), ()))


class Refuses(unittest.TestCase):
    def refuses(self, text, at):
        with self.assertRaises(BadText, msg=repr(text[:200])) as caught:
            read(text)
        self.assertEqual(caught.exception.at, at, repr(text[:200]))
        self.assertIs(type(caught.exception.at), int)

    def test_rows_that_stand_nowhere(self):
        for row in NO_ROWS:
            if row != "":
                self.refuses(row, 0)
            self.refuses(f"{GOOD_SHELF}\n{row}\n{GOOD_SHELF}", 1)
            self.refuses(f"hand h\n{row}", 1)
            self.refuses(f"{GOOD_SHELF}\nhand h\ntell 1\n{row}\ntell 2", 3)
            self.refuses(f"hand h\ntell 1\nhand k\n{row}\n{row}\nfoo", 3)

    def test_shelves_of_no_form(self):
        for row in NO_SHELVES:
            self.refuses(row, 0)
            self.refuses(f"{row}\n{GOOD_SHELF}\nhand h", 0)
            self.refuses(f"{GOOD_SHELF}\n{GOOD_SHELF}\n{row}\nhand h\nfoo", 2)

    def test_terms_of_no_form_in_each_place(self):
        for place in TERM_PLACES:
            for text in NO_TERMS:
                # A line feed makes two rows, of which the first may stand.
                if "\n" not in text:
                    self.refuses("hand h\nhand k\n" + place.format(text), 2)
        for text in NO_TERMS:
            if "\n" not in text:
                self.refuses(f"{GOOD_SHELF}\nshelf a told 2 1 {text}", 1)

    def test_an_empty_row_wherever_it_stands(self):
        self.refuses("\n", 0)
        self.refuses("\n\n", 0)
        self.refuses("\nhand h", 0)
        self.refuses("\nfoo", 0)
        self.refuses("hand h\n", 1)
        self.refuses("hand h\n\n", 1)
        self.refuses("hand h\n\nhand k", 1)
        self.refuses("hand h\ntell 1\n", 2)
        self.refuses("shelf a last 1\n", 1)
        self.refuses("shelf a last 1\n\nhand h", 1)
        self.refuses(WHOLE_TEXT + "\n", WHOLE_TEXT.count("\n") + 1)
        self.refuses("\n" + WHOLE_TEXT, 0)

    def test_a_row_of_a_hand_ahead_of_all_hands(self):
        for row in GOOD_ROWS:
            self.refuses(row, 0)
            self.refuses(f"{row}\nhand h", 0)
            self.refuses(f"{GOOD_SHELF}\n{row}\nhand h", 1)
            self.refuses(f"{GOOD_SHELF}\n{GOOD_SHELF}\n{row}\nfoo", 2)

    def test_a_shelf_behind_a_hand(self):
        for row in (GOOD_SHELF, "shelf a row", "shelf a bag w 1", "shelf a told 2 0 was"):
            self.refuses(f"hand h\n{row}", 1)
            self.refuses(f"hand h\ntell 1\n{row}\nhand k", 2)
            self.refuses(f"{GOOD_SHELF}\nhand h\ntell 1\nhand k\n{row}", 4)

    def test_the_first_of_several_is_told(self):
        lines = WHOLE_TEXT.split("\n")
        for first in range(len(lines)):
            for later in range(first + 1, len(lines)):
                wrong = list(lines)
                wrong[first] = lines[first] + " "
                wrong[later] = "foo"
                self.refuses("\n".join(wrong), first)

    def test_rows_told_by_their_number(self):
        lines = WHOLE_TEXT.split("\n")
        for k in range(len(lines)):
            for row in ("", "foo", lines[k] + " ", " " + lines[k], lines[k] + ")", lines[k].replace(" ", "  ", 1)):
                self.refuses("\n".join(lines[:k] + [row] + lines[k + 1:]), k)

    def test_twenty_one_brackets_and_more(self):
        for many in (21, 22, 50, 1000, 3000):
            for place in TERM_PLACES:
                self.refuses("hand h\ntell 1\n" + place.format(brackets(many)), 2)
            self.refuses("shelf a row\nshelf a told 2 0 " + brackets(many, "was"), 1)

    def test_thousands_of_brackets(self):
        for text in ("(" * 19000, ")" * 19000, "(+ " * 6000, "()" * 9000, "(if 1 2 " * 2000, "( " * 9000):
            self.refuses(text, 0)
            self.refuses("hand h\n" + text, 1)
            self.refuses("hand h\ntell " + text, 1)
            self.refuses("hand h\ntell 1\nwhen 1 tell " + text, 2)
            self.refuses("shelf a told 2 1 " + text, 0)

    def test_thousands_of_line_feeds_and_blanks(self):
        self.refuses("\n" * 20000, 0)
        self.refuses(" " * 20000, 0)
        self.refuses("hand h" + "\n" * 19000, 1)
        self.refuses("hand h\ntell" + " " * 19000 + "1", 1)


if __name__ == "__main__":
    unittest.main()
