import copy
import unittest

from copiedhouse.errors import HouseError, NoTurn
from copiedhouse.looker import look
from copiedhouse.reader import read
from copiedhouse.rules import rule_broken
from copiedhouse.runs import end_of, run_to_end
from copiedhouse.turns import exchanged, hinders
from copiedhouse.writer import show
from tests.samples import WHOLE, LetBy

# Rows of main: 0 split, 1 split, 2 split, 3 join, 4 join, 5 tell, 6 join.
PROGRAM = read("""\
shelf n last 0
hand main
split a
split b
split c
join a
join b
tell n
join c
hand a
hand b
hand c""")

# Shelves, a deed on each, and whether it hinders where two hands have such.
MANNERS = (
    ("shelf s last 1", "set s 2", "s"),
    ("shelf s row", "lay s 0 x", "s"),
    ("shelf s sum 1", "more s s", None),
    ("shelf s bag", "in s x", None),
    ("shelf s told 3 1 yours", "set s 1", "s"),
    ("shelf s told 3 1 mine", "set s 1", None),
    ("shelf s told 3 1 (if (< mine yours) yours mine)", "set s 1", None),
    ("shelf s told 4 1 (- (+ mine yours) was)", "set s 1", None),
    ("shelf s told 3 1 (* was yours)", "set s 1", "s"),
)


def two_kids(shelf, one, other, more=""):
    """A program whose first hand joins two, in rows 2 and 3."""
    return read(f"{shelf}\nhand m\nsplit a\nsplit b\njoin a\njoin b\ntell 7\nhand a\n{one}\nhand b\n{other}{more}")


class Exchanged(unittest.TestCase):
    def assert_no_turn(self, program, H, k):
        with self.assertRaises(NoTurn) as caught:
            exchanged(program, H, k)
        self.assertIsInstance(caught.exception, HouseError)

    def test_two_joins_change_places(self):
        rows = PROGRAM[1][0][1]
        turned = rows[:3] + (("join", "b"), ("join", "a")) + rows[5:]
        self.assertEqual(exchanged(PROGRAM, "main", 3), (PROGRAM[0], (("main", turned),) + PROGRAM[1][1:]))
        self.assertEqual(exchanged(exchanged(PROGRAM, "main", 3), "main", 3), PROGRAM)

    def test_rows_that_are_no_two_joins(self):
        for k in (0, 1, 2, 4, 5):
            self.assert_no_turn(PROGRAM, "main", k)

    def test_at_the_last_row_and_beyond(self):
        for k in (6, 7, 8, 100, 10 ** 30):
            self.assert_no_turn(PROGRAM, "main", k)

    def test_below_0(self):
        for k in (-1, -2, -3, -4, -7, -8, -10 ** 30):
            self.assert_no_turn(PROGRAM, "main", k)
        # Counted from the end, these would be two joins; and the last row and the first.
        program = read("hand m\nsplit a\nsplit b\njoin a\njoin b\nhand a\nhand b")
        for k in (-2, -1, -3):
            self.assert_no_turn(program, "m", k)

    def test_at_the_first_rows_and_the_last_ones(self):
        program = read("hand m\nsplit a\nsplit b\njoin a\njoin b\nhand a\nhand b")
        self.assertEqual(show(exchanged(program, "m", 2)), "hand m\nsplit a\nsplit b\njoin b\njoin a\nhand a\nhand b")
        # A hand can't begin with a join: it holds none.
        self.assert_no_turn(program, "m", 0)
        program = read("hand m\nsplit a\njoin a\nsplit b\njoin b\nhand a\nhand b")
        for k in range(5):
            self.assert_no_turn(program, "m", k)

    def test_hands_without_rows_or_joins(self):
        for k in (-1, 0, 1):
            self.assert_no_turn(PROGRAM, "a", k)
            self.assert_no_turn(read("hand m\ntell 1\ntell 2"), "m", k)

    def test_another_hand_than_the_first(self):
        text = "hand m\nsplit k\njoin k\nhand a\nhand k\nsplit a\nsplit b\njoin a\njoin b\ntell 1\nhand b"
        told = exchanged(read(text), "k", 2)
        self.assertEqual(show(told), text.replace("join a\njoin b", "join b\njoin a"))

    def test_a_join_ahead_of_the_one_that_hands_its_hand_on(self):
        program = read("hand m\nsplit k\njoin k\njoin p\nhand k\nsplit p\nhand p")
        self.assertIs(look(program), True)
        self.assert_no_turn(program, "m", 1)
        # Of three joins the last two may change places, the first two not.
        program = read("hand m\nsplit k\njoin k\njoin p\njoin q\nhand k\nsplit p\nsplit q\nhand p\nhand q")
        self.assert_no_turn(program, "m", 1)
        rows = exchanged(program, "m", 2)[1][0][1]
        self.assertEqual(rows, (("split", "k"), ("join", "k"), ("join", "q"), ("join", "p")))
        # Handed on through two hands.
        program = read("hand m\nsplit k\njoin k\njoin q\nhand k\nsplit p\njoin p\nhand p\nsplit q\nhand q")
        self.assert_no_turn(program, "m", 1)

    def test_each_row_of_many_programs(self):
        maker = LetBy(84)
        met = {"turned": 0, "no joins": 0, "not held": 0}
        for _ in range(150):
            program = maker.program(hands=6, rows=20)
            for word, rows in program[1]:
                for k in range(-3, len(rows) + 3):
                    both = 0 <= k < len(rows) - 1 and rows[k][0] == rows[k + 1][0] == "join"
                    if not both:
                        self.assert_no_turn(program, word, k)
                        met["no joins"] += 1
                        continue
                    turned = rows[:k] + (rows[k + 1], rows[k]) + rows[k + 2:]
                    due = (program[0], tuple((other, turned if other == word else its) for other, its in program[1]))
                    try:
                        look(due)
                    except HouseError:
                        self.assert_no_turn(program, word, k)
                        met["not held"] += 1
                        continue
                    self.assertEqual(exchanged(program, word, k), due)
                    met["turned"] += 1
        self.assertGreater(min(met.values()), 40, met)


class Hinders(unittest.TestCase):
    def test_each_manner(self):
        for shelf, deed, due in MANNERS:
            self.assertEqual(hinders(two_kids(shelf, deed, deed), "m", 2), due, shelf)
            self.assertEqual(hinders(two_kids(shelf, "when 0 " + deed, deed), "m", 2), due, shelf)
            self.assertEqual(hinders(two_kids(shelf, deed, "tell 1\nwhen 0 " + deed), "m", 2), due, shelf)
            # Where one alone has a deed on it nothing hinders.
            self.assertIsNone(hinders(two_kids(shelf, deed, "tell 1"), "m", 2), shelf)
            self.assertIsNone(hinders(two_kids(shelf, "tell 1", deed), "m", 2), shelf)

    def test_the_rule_turns_alone_counts(self):
        # It keeps turns and breaks yours and either.
        self.assertIsNone(hinders(two_kids("shelf s told 3 1 mine", "set s 1", "set s 2"), "m", 2))
        # It keeps yours and mine, and breaks turns.
        term = "(if (= was mine) yours mine)"
        self.assertEqual(hinders(two_kids("shelf s told 3 1 " + term, "set s 1", "set s 2"), "m", 2), "s")

    def test_a_term_that_asks_is_no_deed(self):
        self.assertIsNone(hinders(two_kids("shelf s last 1", "set s 2", "tell s\nwhen s tell s"), "m", 2))

    def test_the_first_shelf_in_order(self):
        shelves = "shelf z sum 1\nshelf y last 1\nshelf a row\nshelf x last 1"
        deeds = "lay a 0 x\nset x 1\nset y 1\nmore z 1"
        self.assertEqual(hinders(two_kids(shelves, deeds, deeds), "m", 2), "y")
        self.assertEqual(hinders(two_kids(shelves, deeds.replace("set y 1\n", ""), deeds), "m", 2), "a")
        self.assertEqual(hinders(two_kids(shelves, "set x 1\nmore z 1", deeds), "m", 2), "x")
        self.assertIsNone(hinders(two_kids(shelves, "set x 1\nmore z 1", "lay a 0 x\nset y 1\nmore z 1"), "m", 2))

    def test_hands_that_are_joined_at_whatever_depth(self):
        more = "\nsplit c\njoin c\nhand c\nsplit d\ntell 1\njoin d\nhand d\nwhen 0 "
        for shelf, deed, due in MANNERS:
            self.assertEqual(hinders(two_kids(shelf, deed, "tell 1", more + deed), "m", 2), due, shelf)
            self.assertIsNone(hinders(two_kids(shelf, "tell 2", "tell 1", more + deed), "m", 2), shelf)

    def test_hands_that_are_handed_on_do_not_count(self):
        # C is split by a, but joined by m.
        text = "shelf s last 1\nhand m\nsplit a\nsplit b\njoin a\njoin b\njoin c\nhand a\nsplit c\nhand b\nset s 1\nhand c\nset s 2"
        program = read(text)
        self.assertIsNone(hinders(program, "m", 2))
        self.assertEqual(hinders(program, "m", 3), "s")
        # Its joins may change places all the same.
        self.assertEqual(exchanged(program, "m", 3)[1][0][1][3:], (("join", "c"), ("join", "b")))

    def test_what_the_joining_hand_did_itself_does_not_count(self):
        text = "shelf s last 1\nhand m\nset s 4\nsplit a\nsplit b\nset s 5\njoin a\njoin b\nset s 6\nhand a\nset s 7\nhand b"
        self.assertIsNone(hinders(read(text), "m", 4))

    def test_rows_0_and_1_of_no_hand_but_k_and_the_next(self):
        text = "shelf s last 1\nhand m\nsplit a\nsplit b\nsplit c\njoin a\njoin b\njoin c\n"
        text += "hand a\nset s 1\nhand b\ntell 1\nhand c\nset s 2"
        program = read(text)
        self.assertIsNone(hinders(program, "m", 3))
        self.assertIsNone(hinders(program, "m", 4))
        program = read(text.replace("join b\njoin c", "join c\njoin b"))
        self.assertEqual(hinders(program, "m", 3), "s")
        self.assertIsNone(hinders(program, "m", 4))


class ManyPrograms(unittest.TestCase):
    def inner(self, rows_of, word):
        return {word}.union(*(self.inner(rows_of, row[1]) for row in rows_of[word] if row[0] == "join"))

    def shelves_of(self, rows_of, word):
        rows = [row for inner in self.inner(rows_of, word) for row in rows_of[inner]]
        deeds = [row[2] if row[0] == "when" else row for row in rows]
        return {deed[1] for deed in deeds if deed[0] not in ("split", "join", "tell")}

    def second_hinders(self, program, word, k):
        rows_of = dict(program[1])
        one, other = rows_of[word][k][1], rows_of[word][k + 1][1]
        both = self.shelves_of(rows_of, one) & self.shelves_of(rows_of, other)
        for S, manner, _ in program[0]:
            if S in both and manner[0] in ("last", "row"):
                return S
            if S in both and manner[0] == "told" and rule_broken(manner[1], manner[2], "turns") is not None:
                return S
        return None

    def told(self, program):
        run = run_to_end(program)
        return {word: run.told(word) for word, _ in program[1]}

    def turning(self, maker):
        """A program with told shelves that often keep the rule."""
        keeping = (
            ("mine",),
            ("if", ("op", "<", ("mine",), ("yours",)), ("yours",), ("mine",)),
            ("op", "+", ("mine",), ("op", "*", ("yours",), ("yours",))),
        )
        return maker.retold(maker.program(hands=6, rows=18), keeping)

    def test_where_nothing_hinders_all_comes_to_the_same(self):
        maker = LetBy(85)
        met = {"same": 0, "both": 0, "hindered": 0, "other": 0}
        for _ in range(800):
            program = self.turning(maker)
            rows_of = dict(program[1])
            for word, rows in program[1]:
                for k in range(len(rows) - 1):
                    try:
                        turned = exchanged(program, word, k)
                    except NoTurn:
                        continue
                    due = self.second_hinders(program, word, k)
                    self.assertEqual(hinders(program, word, k), due, show(program))
                    same = end_of(turned) == end_of(program) and self.told(turned) == self.told(program)
                    if due is not None:
                        met["hindered"] += 1
                        met["other"] += not same
                    elif end_of(program)[0] == "house":
                        self.assertTrue(same, (show(program), word, k))
                        met["same"] += 1
                        one, other = rows[k][1], rows[k + 1][1]
                        met["both"] += bool(self.shelves_of(rows_of, one) & self.shelves_of(rows_of, other))
        self.assertGreater(min(met.values()), 30, met)


class ToldAndHandedIn(unittest.TestCase):
    def test_nothing_is_changed_and_the_same_is_told(self):
        for program, word, k in ((PROGRAM, "main", 3), (WHOLE, "main", 5)):
            before = copy.deepcopy(program)
            self.assertEqual(exchanged(program, word, k), exchanged(program, word, k))
            self.assertEqual(hinders(program, word, k), hinders(program, word, k))
            self.assertEqual(program, before)

    def test_kinds(self):
        told = exchanged(PROGRAM, "main", 3)
        self.assertIs(type(told), tuple)
        self.assertTrue(all(type(part) is tuple for part in told + told[1] + told[1][0][1:]))


if __name__ == "__main__":
    unittest.main()
