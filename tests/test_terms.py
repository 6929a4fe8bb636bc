import copy
import unittest

from copiedhouse.deeds import begins
from copiedhouse.reader import read
from copiedhouse.termreader import read_term
from copiedhouse.terms import value_of
from tests.samples import WIDE, LetBy, nested, num, second_value, shelf

LAST = WIDE - 1
PROGRAM = read("""\
shelf count last 7
shelf total sum 4294967295
shelf things bag apple 2 nut -3
shelf queue row nut apple nut
shelf light told 5 4 mine
shelf nothing bag
shelf none row
hand main""")
HOUSE = begins(PROGRAM)


def value(text, house=HOUSE):
    return value_of(PROGRAM, house, read_term(text, False))


class EachSort(unittest.TestCase):
    def test_a_num(self):
        self.assertEqual([value(text) for text in ("0", "1", "4294967295")], [0, 1, LAST])

    def test_a_shelf(self):
        self.assertEqual([value(text) for text in ("count", "total", "light")], [7, LAST, 4])

    def test_the_house_tells_not_the_begins(self):
        house = (8, 9, (("nut", 1),), ("a",), 0, (("apple", 5),), ("b", "c"))
        self.assertEqual([value(text, house) for text in ("count", "total", "light")], [8, 9, 0])
        self.assertEqual([value(text, house) for text in ("(many things nut)", "(many things apple)")], [1, 0])
        self.assertEqual([value(text, house) for text in ("(long queue)", "(long none)")], [1, 2])
        self.assertEqual(value("(many nothing apple)", house), 5)

    def test_many(self):
        self.assertEqual(value("(many things apple)"), 2)
        self.assertEqual(value("(many things nut)"), WIDE - 3)
        self.assertEqual(value("(many things pear)"), 0)
        self.assertEqual(value("(many nothing apple)"), 0)

    def test_many_beyond_wide_and_below_0(self):
        for many in (WIDE, WIDE + 5, -WIDE, -WIDE - 1, 3 * WIDE - 1, -1):
            house = HOUSE[:2] + ((("nut", many),),) + HOUSE[3:]
            self.assertEqual(value("(many things nut)", house), many % WIDE)
            self.assertTrue(0 <= value("(many things nut)", house) < WIDE)

    def test_long(self):
        self.assertEqual([value(text) for text in ("(long queue)", "(long none)")], [3, 0])

    def test_signs(self):
        self.assertEqual([value(f"({sign} count 3)") for sign in "+-*<="], [10, 4, 21, 0, 0])
        self.assertEqual([value(f"({sign} 3 count)") for sign in "+-*<="], [10, WIDE - 4, 21, 1, 0])
        self.assertEqual([value(f"({sign} total total)") for sign in "+-*<="], [LAST - 1, 0, 1, 0, 1])

    def test_below_0_the_rest_is_taken_at_once(self):
        self.assertEqual(value("(- 0 1)"), LAST)
        self.assertEqual(value("(< (- (long queue) count) 1)"), 0)
        self.assertEqual(value("(= (- 0 3) (many things nut))"), 1)
        self.assertEqual(value("(* (- 0 1) (- 0 1))"), 1)

    def test_an_if(self):
        self.assertEqual(value("(if (long none) count light)"), 4)
        self.assertEqual(value("(if (long queue) count light)"), 7)
        self.assertEqual(value("(if (many things nut) count light)"), 7)
        self.assertEqual(value("(if (= count 8) 1 (if total 2 3))"), 2)

    def test_deep_terms(self):
        self.assertEqual(value_of(PROGRAM, HOUSE, nested(20, shelf("count"))), value_of(PROGRAM, HOUSE, nested(20, num(7))))


class ManyTerms(unittest.TestCase):
    def test_as_another_way_tells(self):
        maker = LetBy(31)
        for _ in range(300):
            program = maker.program()
            house = begins(program)
            values = dict(zip([word for word, _, _ in program[0]], house))
            for _ in range(10):
                term = maker.term(4)
                before = copy.deepcopy((program, house, term))
                told = value_of(program, house, term)
                self.assertEqual(told, second_value(term, values.get))
                self.assertIs(type(told), int)
                self.assertTrue(0 <= told < WIDE)
                self.assertEqual(value_of(program, house, term), told)
                self.assertEqual((program, house, term), before)


if __name__ == "__main__":
    unittest.main()
