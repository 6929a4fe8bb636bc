import copy
import unittest

from copiedhouse.deeds import begins, done
from copiedhouse.reader import read
from tests.samples import WHOLE, WIDE, LetBy, only_plain, second_made, second_value

LAST = WIDE - 1
SHELVES = """\
shelf l last 7
shelf s sum 4294967295
shelf b bag apple 1 nut -1
shelf r row x y z
shelf t told 5 4 mine
hand m
"""
PLACES = {"l": 0, "s": 1, "b": 2, "r": 3, "t": 4}
HOUSE = (7, LAST, (("apple", 1), ("nut", -1)), ("x", "y", "z"), 4)


def did(line):
    """The house behind one row, done on the begins, and what else is told."""
    program = read(SHELVES + line)
    return done(program, begins(program), program[1][0][1][0])


class Begins(unittest.TestCase):
    def test_the_begins_in_order_of_the_shelves(self):
        self.assertEqual(begins(read(SHELVES + "tell 1")), HOUSE)
        bag = (("apple", 2), ("nut", -3), ("pear", 999999999))
        self.assertEqual(begins(WHOLE), (0, LAST, bag, ("nut", "apple", "nut"), 2, (), ()))
        self.assertEqual(begins(read("hand m")), ())
        self.assertTrue(only_plain(begins(WHOLE)))


class EachDeed(unittest.TestCase):
    def assert_made(self, line, value):
        """That a row makes this value, of its shelf alone, and writes it."""
        word = line.split(" ")[1]
        place = PLACES[word]
        self.assertEqual(did(line), (HOUSE[:place] + (value,) + HOUSE[place + 1 :], None, word), line)

    def test_set_on_last(self):
        self.assert_made("set l 0", 0)
        self.assert_made("set l 4294967295", LAST)
        self.assert_made("set l (+ l 1)", 8)
        self.assert_made("set l (- 0 1)", LAST)
        self.assert_made("set l (many b nut)", LAST)

    def test_set_on_told_the_rest_by_n(self):
        for number in (0, 1, 4, 5, 6, 9, 10, LAST):
            self.assert_made(f"set t {number}", number % 5)
        self.assert_made("set t (- 0 1)", LAST % 5)
        self.assert_made("set t (+ t 1)", 0)

    def test_more(self):
        self.assert_made("more s 1", 0)
        self.assert_made("more s 0", LAST)
        self.assert_made("more s 3", 2)
        self.assert_made("more s s", LAST - 1)
        self.assert_made("more s (- 0 1)", LAST - 1)

    def test_in(self):
        self.assert_made("in b apple", (("apple", 2), ("nut", -1)))
        self.assert_made("in b nut", (("apple", 1),))
        self.assert_made("in b kiwi", (("apple", 1), ("kiwi", 1), ("nut", -1)))

    def test_out(self):
        self.assert_made("out b apple", (("nut", -1),))
        self.assert_made("out b nut", (("apple", 1), ("nut", -2)))
        self.assert_made("out b zebra", (("apple", 1), ("nut", -1), ("zebra", -1)))

    def test_lay(self):
        self.assert_made("lay r 0 w", ("w", "x", "y", "z"))
        self.assert_made("lay r 1 w", ("x", "w", "y", "z"))
        self.assert_made("lay r 2 w", ("x", "y", "w", "z"))
        for place in ("3", "4", "100", "4294967295", "(long r)", "(- 0 1)", "(many b nut)"):
            self.assert_made(f"lay r {place} w", ("x", "y", "z", "w"))

    def test_drop(self):
        self.assert_made("drop r 0", ("y", "z"))
        self.assert_made("drop r 1", ("x", "z"))
        self.assert_made("drop r 2", ("x", "y"))
        for place in ("3", "4", "100", "4294967295", "(long r)", "(- 0 1)"):
            self.assert_made(f"drop r {place}", ("x", "y", "z"))

    def test_a_deed_by_which_nothing_becomes_other_writes_its_shelf(self):
        for line in ("set l 7", "set l l", "set t 4", "set t 9", "more s 0", "drop r 3"):
            word = line.split(" ")[1]
            self.assertEqual(did(line), (HOUSE, None, word))

    def test_tell(self):
        self.assertEqual(did("tell (+ l 1)"), (HOUSE, 8, None))
        self.assertEqual(did("tell 0"), (HOUSE, 0, None))
        self.assertEqual(did("tell (many b nut)"), (HOUSE, LAST, None))

    def test_rows_that_come_to_be_empty_or_begin(self):
        program = read("shelf r row\nshelf q row a\nhand m\nlay r 0 w\ndrop r 0\ndrop q 0\nlay q 5 b")
        rows = program[1][0][1]
        house = begins(program)
        self.assertEqual(done(program, house, rows[0]), ((("w",), ("a",)), None, "r"))
        self.assertEqual(done(program, house, rows[1]), (((), ("a",)), None, "r"))
        self.assertEqual(done(program, house, rows[2]), (((), ()), None, "q"))
        self.assertEqual(done(program, house, rows[3]), (((), ("a", "b")), None, "q"))


class Whens(unittest.TestCase):
    LINES = ("set l 3", "set t 3", "more s 2", "in b w", "out b apple", "lay r 0 w", "drop r 0", "tell 5")

    def test_a_guard_that_is_not_0(self):
        for line in self.LINES:
            for guard in ("1", "2", "4294967295", "l", "(- 0 1)", "(many b nut)", "(= l 7)"):
                self.assertEqual(did(f"when {guard} {line}"), did(line))

    def test_a_guard_of_0_does_and_writes_nothing(self):
        for line in self.LINES:
            for guard in ("0", "(= l 8)", "(many b w)", "(+ s 1)", "(- l l)"):
                self.assertEqual(did(f"when {guard} {line}"), (HOUSE, None, None))

    def test_the_guard_is_asked_ahead_of_the_deed(self):
        self.assertEqual(did("when (= l 7) set l 0")[0][0], 0)
        self.assertEqual(did("when (= l 0) set l 0")[0][0], 7)


class ManyDeeds(unittest.TestCase):
    def test_as_another_way_tells(self):
        maker = LetBy(41)
        for _ in range(400):
            program = maker.program()
            house = begins(program)
            manners = {word: manner for word, manner, _ in program[0]}
            for _ in range(12):
                row = maker.row()
                before = copy.deepcopy((program, house, row))
                values = dict(zip(manners, house))
                told, wrote = None, None
                deed = row[2] if row[0] == "when" else row
                if row[0] != "when" or second_value(row[1], values.get):
                    if deed[0] == "tell":
                        told = second_value(deed[1], values.get)
                    else:
                        wrote = deed[1]
                        number = 0 if deed[0] in ("in", "out") else second_value(deed[2], values.get)
                        values[wrote] = second_made(manners[wrote], deed, values[wrote], number)
                due = (tuple(values.values()), told, wrote)
                self.assertEqual(done(program, house, row), due)
                self.assertEqual(done(program, house, row), due)
                self.assertTrue(only_plain(due[0]))
                self.assertIs(type(done(program, house, row)), tuple)
                self.assertEqual((program, house, row), before)
                house = due[0]


if __name__ == "__main__":
    unittest.main()
