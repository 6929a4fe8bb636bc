import copy
import unittest

from copiedhouse.errors import HouseError, Left, NoHand, NoName, NoSplit, NotHeld, Twice, WrongShelf
from copiedhouse.lists import in_split_order
from copiedhouse.looker import held_at, look
from copiedhouse.reader import read
from copiedhouse.writer import show
from tests.samples import WHOLE, LetBy, deeds_of_all_sorts, nested, num, op, shelf

# One hand splits two others; one of these hands its own on, and a third is joined by another than its splitter.
HANDED_ON = read("""\
hand a
split d
split b
tell 1
join b
join d
join c
join e
hand e
hand b
tell 0
split c
tell 0
hand c
split f
split e
join f
hand d
hand f""")

SHELVES = """\
shelf l last 0
shelf s sum 0
shelf b bag
shelf r row
shelf t told 2 0 mine
"""
MANNERS = {"l": "last", "s": "sum", "b": "bag", "r": "row", "t": "told"}
FITTING = {"set": "lt", "more": "s", "in": "b", "out": "b", "lay": "r", "drop": "r"}
ASKING = {"shelf": "lst", "many": "b", "long": "r"}


def refused(program):
    """How look refuses a program: its class and word, or None where it is let by."""
    try:
        told = look(program)
    except HouseError as error:
        return (type(error), getattr(error, "word", None))
    assert told is True
    return None


def rows(*lines):
    """A program of all manners of shelves whose one hand does these rows."""
    return read(SHELVES + "\n".join(("hand m",) + lines))


class HeldAt(unittest.TestCase):
    def held(self, program, word):
        many = len(dict(program[1])[word])
        return [" ".join(held_at(program, word, n)) for n in range(many + 1)]

    def test_from_behind_the_split_until_behind_the_join(self):
        program = read("hand a\ntell 1\nsplit b\ntell 2\njoin b\ntell 3\nhand b")
        self.assertEqual(self.held(program, "a"), ["", "", "b", "b", "", ""])
        self.assertEqual(self.held(program, "b"), [""])

    def test_in_order_of_the_hands(self):
        program = read("hand a\nsplit d\nsplit b\nsplit c\njoin d\njoin c\njoin b\nhand b\nhand c\nhand d")
        self.assertEqual(self.held(program, "a"), ["", "d", "b d", "b c d", "b c", "b", ""])

    def test_what_a_joined_hand_held_at_its_end_is_handed_on(self):
        self.assertEqual(self.held(HANDED_ON, "a"), ["", "d", "b d", "b d", "c d", "c", "e", ""])
        self.assertEqual(self.held(HANDED_ON, "b"), ["", "", "c", "c"])
        self.assertEqual(self.held(HANDED_ON, "c"), ["", "f", "e f", "e"])
        for word in "def":
            self.assertEqual(self.held(HANDED_ON, word), [""])

    def test_of_the_whole(self):
        held = {
            "main": ["", "kid", "kid", "zed kid", "zed kid", "zed pal", "zed", ""],
            "aunt": ["", ""],
            "zed": ["", "aunt", "aunt", "aunt", ""],
            "pal": ["", "", ""],
            "kid": ["", "pal", "pal", "pal"],
        }
        for word, told in held.items():
            self.assertEqual(self.held(WHOLE, word), told)

    def test_it_is_a_tuple_of_words_each_time_the_same(self):
        before = copy.deepcopy(HANDED_ON)
        for _ in range(2):
            told = held_at(HANDED_ON, "a", 3)
            self.assertIs(type(told), tuple)
            self.assertEqual(told, ("b", "d"))
            self.assertEqual(HANDED_ON, before)
        self.assertEqual(held_at(read("hand a"), "a", 0), ())

    def test_hands_of_many_programs(self):
        maker = LetBy(21)
        for _ in range(200):
            program = maker.program(hands=8, rows=40)
            for word, its_rows in program[1]:
                for n in range(len(its_rows) + 1):
                    holds = second_held(program, word, n)
                    told = held_at(program, word, n)
                    self.assertEqual(told, tuple(hand for hand, _ in program[1] if hand in holds))


def second_held(program, word, n):
    """What a hand holds ahead of a row, asked from the row behind it on."""
    if n == 0:
        return set()
    row = dict(program[1])[word][n - 1]
    before = second_held(program, word, n - 1)
    if row[0] == "split":
        return before | {row[1]}
    if row[0] == "join":
        return before - {row[1]} | second_held(program, row[1], len(dict(program[1])[row[1]]))
    return before


class LetByPrograms(unittest.TestCase):
    def test_ordinary_ones(self):
        for program in (WHOLE, HANDED_ON, read("hand a"), read("shelf a last 0\nhand a")):
            self.assertIs(look(program), True)

    def test_shelves_and_hands_called_alike(self):
        text = "shelf a last 0\nshelf b bag b 1\nhand a\nsplit b\nset a (many b a)\nin b a\njoin b\nhand b\nout b b"
        self.assertIs(look(read(text)), True)

    def test_a_hand_split_by_one_and_joined_by_another(self):
        self.assertIs(look(read("hand a\nsplit b\njoin b\njoin c\nhand b\nsplit c\nhand c")), True)

    def test_all_deeds_and_terms_that_fit(self):
        self.assertIs(look(rows(*[
            "set l (+ l (* s t))", "set t (if (long r) (many b l) (- t 1))", "more s (= s (< l t))",
            "in b s", "out b zz", "lay r (long r) b", "drop r (many b b)", "tell (long r)",
            "when l set l s", "when (many b q) tell 1", "when (long r) in b l",
        ])), True)

    def test_greater_programs_of_texts(self):
        words = ["h" + first + second for first in "abcdefghijklmnopqrstuvwxyz" for second in "abcdefghijklmnopqrstuvwxyz"]
        chain = []
        for word, after in zip(words, words[1:]):
            chain.extend(["hand " + word, "split " + after, "join " + after])
        self.assertIs(look(read("\n".join(chain + ["hand " + words[-1]]))), True)
        # Each hand splits the next one and is at its end; the first one joins them all, as they are handed on.
        handed = ["hand m", "split " + words[0]] + ["join " + word for word in words]
        for word, after in zip(words, words[1:]):
            handed.extend(["hand " + word, "split " + after])
        whole = read("\n".join(handed + ["hand " + words[-1]]))
        self.assertIs(look(whole), True)
        self.assertEqual(held_at(whole, "m", 300), (words[299],))
        self.assertEqual(refused(read("\n".join(handed))), (NoName, words[-1]))
        shelves = ["shelf " + word + " last 0" for word in words]
        self.assertIs(look(read("\n".join(shelves + ["hand m"] + ["set " + word + " hzz" for word in words]))), True)

    def test_deeper_terms_than_most(self):
        program = (WHOLE[0], (("m", (("tell", nested(20, shelf("count"))),)),))
        self.assertIs(look(program), True)
        program = (WHOLE[0], (("m", (("tell", nested(20, shelf("queue"))),)),))
        self.assertEqual(refused(program), (WrongShelf, "queue"))

    def test_nothing_is_changed_and_the_same_is_told(self):
        for program in (WHOLE, HANDED_ON, read("hand a\nsplit b\nhand b")):
            before = copy.deepcopy(program)
            self.assertEqual(refused(program), refused(program))
            self.assertEqual(program, before)


class EachRefusal(unittest.TestCase):
    def assert_refused(self, text, kind, word=None):
        self.assertEqual(refused(read(text)), (kind, word), text)

    def test_no_hand(self):
        self.assert_refused("", NoHand)
        self.assert_refused("shelf a last 0", NoHand)

    def test_twice_of_shelves_and_of_hands(self):
        self.assert_refused("shelf a last 0\nshelf b sum 0\nshelf a bag\nhand m", Twice, "a")
        self.assert_refused("shelf a last 0\nshelf b sum 0\nshelf b sum 0\nshelf a bag\nhand m", Twice, "b")
        self.assert_refused("hand m\nhand n\nhand m", Twice, "m")
        self.assert_refused("hand m\nhand n\nhand n\nhand m", Twice, "n")

    def test_shelves_that_there_are_not(self):
        for lines in (
            "set zz 1", "more zz 1", "in zz w", "out zz w", "lay zz 1 w", "drop zz 1", "tell zz", "tell (many zz b)",
            "tell (long zz)", "set l zz", "more s (+ 1 zz)", "lay r zz w", "drop r (if 1 2 zz)", "when zz tell 1",
            "when 0 set zz 1", "when 1 tell zz", "tell (if 1 (- (long zz) 1) 2)",
        ):
            self.assertEqual(refused(rows(lines)), (NoName, "zz"), lines)

    def test_a_word_of_another_sort_is_no_shelf(self):
        for lines in ("set m 1", "tell m", "tell (long m)", "in m b"):
            self.assertEqual(refused(rows(lines)), (NoName, "m"), lines)
        for lines in ("split l", "join l"):
            self.assertEqual(refused(rows(lines)), (NoName, "l"), lines)
        self.assertIs(look(rows("in b zz", "lay r 0 zz", "tell (many b zz)")), True)

    def test_each_deed_on_each_manner(self):
        for word in MANNERS:
            for deed in deeds_of_all_sorts(num(1)):
                if deed[0] == "tell":
                    continue
                one = (deed[0], word) + deed[2:]
                for row in (one, ("when", num(0), one)):
                    program = (rows()[0], (("m", (row,)),))
                    due = None if word in FITTING[deed[0]] else (WrongShelf, word)
                    self.assertEqual(refused(program), due, row)

    def test_each_term_on_each_manner(self):
        for word in MANNERS:
            for kind, fitting in ASKING.items():
                term = ("many", word, "w") if kind == "many" else (kind, word)
                due = None if word in fitting else (WrongShelf, word)
                for deed in (("tell", term), ("set", "l", op("+", num(1), term)), ("lay", "r", term, "w")):
                    for row in (deed, ("when", num(0), deed), ("when", term, ("tell", num(1)))):
                        self.assertEqual(refused((rows()[0], (("m", (row,)),))), due, row)

    def test_hands_that_there_are_not(self):
        self.assert_refused("hand m\nsplit zz", NoName, "zz")
        self.assert_refused("hand m\njoin zz", NoName, "zz")
        self.assert_refused("shelf zz last 0\nhand m\nsplit a\nsplit zz\nhand a", NoName, "zz")

    def test_a_split_of_the_first_hand(self):
        self.assert_refused("hand m\nsplit m", Twice, "m")
        self.assert_refused("hand m\nsplit a\njoin a\nhand a\nsplit m", Twice, "m")

    def test_a_hand_split_twice(self):
        self.assert_refused("hand m\nsplit a\njoin a\nsplit a\njoin a\nhand a", Twice, "a")
        self.assert_refused("hand m\nsplit a\nsplit b\njoin a\njoin b\nhand a\nsplit b\nhand b", Twice, "b")
        self.assert_refused("hand m\nsplit a\nsplit b\njoin a\njoin b\nhand b\nsplit a\nhand a\nsplit b", Twice, "a")

    def test_hands_that_are_not_come_to(self):
        self.assert_refused("hand m\nhand a", NoSplit, "a")
        self.assert_refused("hand m\nsplit b\njoin b\nhand c\nhand b\nhand a", NoSplit, "c")
        self.assert_refused("hand m\nhand a\nsplit b\njoin b\nhand b", NoSplit, "a")
        self.assert_refused("hand m\nhand b\nhand a\nsplit b\njoin b", NoSplit, "b")

    def test_hands_that_split_one_another(self):
        self.assert_refused("hand m\nhand a\nsplit b\nhand b\nsplit a", NoSplit, "a")
        self.assert_refused("hand m\nsplit c\njoin c\nhand c\nhand b\nsplit a\njoin a\nhand a\nsplit b\njoin b", NoSplit, "b")
        self.assert_refused("hand m\nhand a\nsplit a", NoSplit, "a")

    def test_joins_of_hands_that_are_not_held(self):
        self.assert_refused("hand m\njoin a\nsplit a\nhand a", NotHeld, "a")
        self.assert_refused("hand m\nsplit a\njoin a\njoin a\nhand a", NotHeld, "a")
        self.assert_refused("hand m\njoin m", NotHeld, "m")
        self.assert_refused("hand m\nsplit a\njoin a\nhand a\njoin a", NotHeld, "a")
        self.assert_refused("hand m\nsplit a\njoin a\nhand a\njoin m", NotHeld, "m")

    def test_joins_of_hands_that_another_one_holds(self):
        self.assert_refused("hand m\nsplit a\njoin b\njoin a\nhand a\nsplit b\nhand b", NotHeld, "b")
        self.assert_refused("hand m\nsplit a\njoin a\njoin b\nhand a\nsplit b\njoin b\nhand b", NotHeld, "b")
        self.assert_refused("hand m\nsplit a\nsplit b\njoin b\njoin a\nhand a\njoin b\nhand b", NotHeld, "b")

    def test_hands_that_are_left(self):
        self.assert_refused("hand m\nsplit a\nhand a", Left, "a")
        self.assert_refused("hand m\nsplit b\nsplit c\nsplit a\njoin c\nhand c\nhand a\nhand b", Left, "a")
        self.assert_refused("hand m\nsplit a\njoin a\nhand b\nhand a\nsplit b", Left, "b")


class TheFirstThatIsDue(unittest.TestCase):
    """Each text has two faults; by the document's order that one is told which is named."""

    def assert_first(self, text, kind, word=None):
        self.assertEqual(refused(read(text)), (kind, word), text)

    def assert_first_in(self, line, kind, word):
        self.assertEqual(refused(rows(line)), (kind, word), line)

    def test_shelves_then_no_hand_then_hands(self):
        self.assert_first("shelf a last 0\nshelf a last 0", Twice, "a")
        self.assert_first("shelf a last 0\nshelf a last 0\nhand m\nhand m", Twice, "a")
        self.assert_first("hand m\nset zz 1\nhand m", Twice, "m")

    def test_hand_by_hand_row_by_row(self):
        self.assertEqual(refused(rows("tell x", "tell y")), (NoName, "x"))
        self.assertEqual(refused(rows("tell b", "split zz")), (WrongShelf, "b"))
        self.assertEqual(refused(rows("split zz", "tell b")), (NoName, "zz"))
        self.assertEqual(refused(rows("join zz", "split m")), (NoName, "zz"))
        self.assertEqual(refused(rows("split m", "join zz")), (Twice, "m"))
        self.assertEqual(refused(rows("tell 1", "hand n", "tell x", "hand o", "tell y")), (NoName, "x"))
        self.assertEqual(refused(rows("split n", "hand n", "split n", "tell x")), (Twice, "n"))

    def test_a_guard_ahead_of_its_deed(self):
        self.assert_first_in("when x set y 1", NoName, "x")
        self.assert_first_in("when x tell y", NoName, "x")
        self.assert_first_in("when b set y 1", WrongShelf, "b")
        self.assert_first_in("when (+ 1 x) set b y", NoName, "x")

    def test_a_deeds_shelf_ahead_of_its_term(self):
        self.assert_first_in("set x y", NoName, "x")
        self.assert_first_in("set b y", WrongShelf, "b")
        self.assert_first_in("more l (long b)", WrongShelf, "l")
        self.assert_first_in("lay x y w", NoName, "x")
        self.assert_first_in("drop b r", WrongShelf, "b")
        self.assert_first_in("when l set b y", WrongShelf, "b")

    def test_the_terms_in_a_term_from_the_left(self):
        self.assert_first_in("tell (+ x y)", NoName, "x")
        self.assert_first_in("tell (+ r y)", WrongShelf, "r")
        self.assert_first_in("tell (if x y z)", NoName, "x")
        self.assert_first_in("tell (if 1 y z)", NoName, "y")
        self.assert_first_in("tell (if 1 (+ 1 (- 2 x)) b)", NoName, "x")
        self.assert_first_in("tell (= (< (long b) y) x)", WrongShelf, "b")

    def test_all_rows_ahead_of_no_split(self):
        self.assert_first("hand m\nhand a\nhand b\ntell x", NoName, "x")
        self.assert_first("hand m\nhand a\nhand b\nsplit m", Twice, "m")
        self.assert_first("hand m\njoin a\nhand a\nhand b\njoin zz", NoName, "zz")

    def test_no_split_ahead_of_not_held(self):
        self.assert_first("hand m\njoin m\nhand a", NoSplit, "a")
        self.assert_first("hand m\njoin a\nhand a", NoSplit, "a")
        self.assert_first("hand m\nhand a\nhand b\njoin m", NoSplit, "a")

    def test_the_last_hand_in_order_of_splitting_first(self):
        self.assert_first("hand m\njoin m\nsplit a\njoin a\nhand a\njoin a", NotHeld, "a")
        # In order of splitting: m, b, c, a.
        text = "hand m\nsplit b\nsplit a\njoin b\njoin a{}\nhand a{}\nhand b\nsplit c\njoin c{}\nhand c{}"
        self.assert_first(text.format("\njoin m", "\njoin a", "\njoin b", "\njoin c"), NotHeld, "a")
        self.assert_first(text.format("\njoin m", "", "\njoin b", "\njoin c"), NotHeld, "c")
        self.assert_first(text.format("\njoin m", "", "\njoin b", ""), NotHeld, "b")
        self.assert_first(text.format("\njoin c", "", "", ""), NotHeld, "c")
        self.assertIs(look(read(text.format("", "", "", ""))), True)

    def test_rows_in_order_within_a_hand(self):
        self.assert_first("hand m\nsplit a\njoin m\njoin b\njoin a\nsplit b\nhand a\nhand b", NotHeld, "m")
        self.assert_first("hand m\nsplit a\njoin b\njoin m\njoin a\nsplit b\nhand a\nhand b", NotHeld, "b")

    def test_not_held_ahead_of_left(self):
        self.assert_first("hand m\nsplit a\njoin m\nhand a", NotHeld, "m")
        self.assert_first("hand m\nsplit b\nhand a\njoin m\nhand b\nsplit a", NotHeld, "m")


def second_look(program):
    """What is due by another way: each refusal that is due with its place in the order, of which the least goes first."""
    shelves, hands = program
    found = []
    for stage, tuples in ((0, shelves), (2, hands)):
        words = [one[0] for one in tuples]
        found += [((stage, k), Twice, word) for k, word in enumerate(words) if word in words[:k]]
    if not hands:
        found.append(((1,), NoHand, None))
    if found:
        return min(found, key=lambda one: one[0])[1:]
    manners = {word: manner[0] for word, manner, _ in shelves}
    names = [word for word, _ in hands]
    split = {names[0]}
    for at, (_, its_rows) in enumerate(hands):
        for k, row in enumerate(its_rows):
            for place, (kind, word) in enumerate(faults_of(row, manners, names, split)):
                found.append(((3, at, k, place), kind, word))
    if found:
        return min(found, key=lambda one: one[0])[1:]
    splits = {word: [row[1] for row in its_rows if row[0] == "split"] for word, its_rows in hands}
    come_to = [names[0]]
    for word in come_to:
        come_to.extend(splits[word])
    for word in names:
        if word not in come_to:
            return (NoSplit, word)
    held = {}
    for word in reversed(in_split_order(program)):
        held[word] = []
        for kind, other in [row for row in dict(hands)[word] if row[0] in ("split", "join")]:
            if kind == "split":
                held[word].append(other)
            elif other not in held[word]:
                return (NotHeld, other)
            else:
                held[word].remove(other)
                held[word].extend(held[other])
    left = [word for word in names if word in held[names[0]]]
    return (Left, left[0]) if left else None


def faults_of(row, manners, names, split):
    if row[0] in ("split", "join"):
        if row[1] not in names:
            return [(NoName, row[1])]
        if row[0] == "split" and row[1] in split:
            return [(Twice, row[1])]
        if row[0] == "split":
            split.add(row[1])
        return []
    asks = []
    for part in ([row[1], row[2]] if row[0] == "when" else [row]):
        walk(part, asks)
    fitting = {**{kind: [MANNERS[one] for one in words] for kind, words in FITTING.items()}}
    fitting.update({kind: [MANNERS[one] for one in words] for kind, words in ASKING.items()})
    faults = []
    for kind, word in asks:
        if word not in manners:
            faults.append((NoName, word))
        elif manners[word] not in fitting[kind]:
            faults.append((WrongShelf, word))
    return faults


def walk(part, asks):
    if part[0] in FITTING or part[0] in ASKING:
        asks.append((part[0], part[1]))
    for inner in part[1:]:
        if isinstance(inner, tuple):
            walk(inner, asks)


class ManyPrograms(unittest.TestCase):
    def changed(self, chance, program):
        """A program in which some rows are put in, taken out or moved, and some words exchanged."""
        shelves = [list(one) for one in program[0]]
        hands = [[word, list(its_rows)] for word, its_rows in program[1]]
        for _ in range(chance.randint(0, 2)):
            kind = chance.randrange(8)
            one, other = chance.choice(hands)[1], chance.choice(hands)[1]
            named = [k for k, row in enumerate(one) if row[0] in ("split", "join")]
            if kind == 0 and shelves:
                chance.choice(shelves)[0] = chance.choice("abcdefgh")
            elif kind == 1 and shelves:
                two = chance.choice(shelves), chance.choice(shelves)
                two[0][0], two[1][0] = two[1][0], two[0][0]
            elif kind == 2:
                chance.choice(hands)[0] = chance.choice("abcdefgh")
            elif kind == 3:
                one.insert(chance.randint(0, len(one)), (chance.choice(("split", "join")), chance.choice("abcdefgh")))
            elif kind in (4, 5) and named:
                one.pop(chance.choice(named))
            elif kind in (6, 7) and named:
                other.insert(chance.randint(0, len(other)), one.pop(chance.choice(named)))
        return (tuple(tuple(one) for one in shelves), tuple((word, tuple(its_rows)) for word, its_rows in hands))

    def test_each_is_judged_alike(self):
        maker = LetBy(22)
        met = {}
        for _ in range(4000):
            program = maker.program(hands=6, rows=20)
            self.assertIsNone(refused(program))
            program = self.changed(maker.chance, program)
            due = second_look(program)
            self.assertEqual(refused(program), due, show(program))
            kind = due[0] if due else None
            met[kind] = met.get(kind, 0) + 1
        for kind in (None, Twice, NoName, WrongShelf, NoSplit, NotHeld, Left):
            self.assertGreater(met.get(kind, 0), 40, met)


if __name__ == "__main__":
    unittest.main()
