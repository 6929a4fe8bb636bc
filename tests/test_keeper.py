import copy
import unittest

from copiedhouse.keeper import Keeper
from copiedhouse.reader import read
from copiedhouse.runs import Run, end_of
from copiedhouse.writer import show
from tests.samples import FIVE_SHELVES, WHOLE, LetBy, only_plain

# Kid has deeds on all shelves but last's on which it may be asked back, pal joins aunt, which alone has a deed.
PROGRAM = read(FIVE_SHELVES + """\
shelf e bag
hand main
more s 1
split kid
set n 5
more s 2
split pal
join pal
join kid
tell s
hand kid
set n 7
tell n
when 0 in b y
when 1 drop r 1
more s 100
set t 1
hand aunt
in e z
hand pal
split aunt
tell 3
join aunt""")

KID = [("kid", "s"), ("kid", "b"), ("kid", "r"), ("kid", "t")]

# Aunt's join of kid clashes in row 4; main, which joins pal first, hears of it in row 4.
CLASH = read("""\
shelf p row a
shelf n sum 0
hand main
split aunt
split pal
join pal
more n 1
join aunt
tell 1
hand kid
lay p 0 x
more n 2
hand aunt
tell 3
split kid
lay p 0 y
more n 4
join kid
hand pal
more n 8""")

# Main joins kid, and then pal and zed, whom kid split; zed joins sis.
HANDED = read("""\
shelf s sum 1
shelf b bag
shelf r row
hand main
split kid
join kid
join pal
join zed
hand kid
more s 2
split pal
split zed
hand pal
in b x
hand zed
split sis
join sis
hand sis
lay r 0 x""")


def state(keeper, word):
    return (keeper.house(word), keeper.rows_done(word), keeper.told(word), keeper.broken(word))


class Kept(unittest.TestCase):
    def test_at_first(self):
        keeper = Keeper(PROGRAM)
        self.assertEqual(keeper.kept(), [])
        self.assertEqual(state(keeper, "main"), ((1, 10, (("x", 1),), ("p", "q"), 2, ()), 0, [], None))
        for word in ("kid", "aunt", "pal"):
            self.assertEqual(state(keeper, word), (None, 0, None, None))
        self.assertIsNone(keeper.end())

    def test_nothing_is_kept_of_the_first_hand(self):
        keeper = Keeper(PROGRAM)
        keeper.woven(["main"] * 5)
        for shelf, _, _ in PROGRAM[0]:
            self.assertIsNone(keeper.was("main", shelf))

    def test_what_is_kept_of_a_hand_that_is_begun(self):
        keeper = Keeper(PROGRAM)
        keeper.woven(["main", "main"])
        self.assertEqual(keeper.kept(), KID)
        self.assertEqual(keeper.was("kid", "s"), 11)
        self.assertEqual(keeper.was("kid", "b"), (("x", 1),))
        self.assertEqual(keeper.was("kid", "r"), ("p", "q"))
        self.assertEqual(keeper.was("kid", "t"), 2)
        # Last is never kept, nor is what it has no deed on.
        self.assertIsNone(keeper.was("kid", "n"))
        self.assertIsNone(keeper.was("kid", "e"))
        self.assertIsNone(keeper.was("pal", "e"))

    def test_also_of_deeds_in_whens_that_are_not_done(self):
        program = read("shelf s sum 5\nshelf r row\nhand m\nsplit k\njoin k\nhand k\nwhen 0 more s 1\nwhen (long r) tell 1")
        keeper = Keeper(program)
        keeper.step("m")
        self.assertEqual(keeper.kept(), [("k", "s")])
        keeper.woven(["k", "k"])
        self.assertEqual((keeper.kept(), keeper.was("k", "s"), keeper.was("k", "r")), ([("k", "s")], 5, None))

    def test_terms_that_ask_are_no_deeds(self):
        program = read("shelf s sum 5\nshelf t told 3 2 mine\nhand m\nsplit k\njoin k\nhand k\ntell s\nset t s")
        keeper = Keeper(program)
        keeper.step("m")
        self.assertEqual(keeper.kept(), [("k", "t")])

    def test_values_of_nothing_are_kept_too(self):
        program = read("shelf s sum 0\nshelf t told 3 0 mine\nshelf b bag\nshelf r row\nhand m\nsplit k\njoin k\n"
                       "hand k\nmore s 1\nset t 1\nin b x\nlay r 0 x")
        keeper = Keeper(program)
        keeper.woven(["m", "k", "k", "k", "k"])
        self.assertEqual(keeper.kept(), [("k", "s"), ("k", "t"), ("k", "b"), ("k", "r")])
        self.assertEqual([keeper.was("k", S) for S in "stbr"], [0, 0, (), ()])

    def test_what_was_at_the_split_stays_while_hands_go_on(self):
        keeper = Keeper(PROGRAM)
        keeper.woven(["main"] * 5 + ["kid"] * 6)
        self.assertEqual(keeper.was("kid", "s"), 11)
        self.assertEqual(keeper.was("kid", "r"), ("p", "q"))
        # Kid is through and not joined: nothing is let go yet.
        self.assertEqual(keeper.kept(), KID + [("pal", "e")])
        self.assertEqual(state(keeper, "kid"), ((7, 111, (("x", 1),), ("p",), 1, ()), 6, [7], None))

    def test_also_of_hands_that_it_joins_and_that_these_join(self):
        keeper = Keeper(PROGRAM)
        keeper.woven(["main"] * 5)
        self.assertEqual(keeper.kept(), KID + [("pal", "e")])
        keeper.step("pal")
        self.assertEqual(keeper.kept(), KID + [("aunt", "e"), ("pal", "e")])
        self.assertEqual((keeper.was("aunt", "e"), keeper.was("pal", "e")), ((), ()))
        keeper.woven(["aunt", "pal", "pal"])
        # Aunt is joined, but by pal's join what aunt did may still be asked for.
        self.assertEqual(keeper.kept(), KID + [("pal", "e")])
        self.assertEqual(state(keeper, "aunt"), (None, 1, None, None))
        self.assertIsNone(keeper.was("aunt", "e"))

    def test_hands_that_are_joined_by_others_than_their_splitters(self):
        keeper = Keeper(HANDED)
        keeper.step("main")
        # Kid joins none: what pal and zed do is not kept for it.
        self.assertEqual(keeper.kept(), [("kid", "s")])
        keeper.woven(["kid"] * 3)
        self.assertEqual(keeper.kept(), [("kid", "s"), ("pal", "b"), ("zed", "r")])
        keeper.step("main")
        self.assertEqual(keeper.kept(), [("pal", "b"), ("zed", "r")])
        self.assertEqual(state(keeper, "kid"), (None, 3, None, None))
        self.assertEqual(state(keeper, "main"), ((3, (), ()), 2, [], None))
        keeper.woven(["pal", "main", "zed"])
        self.assertEqual(keeper.kept(), [("zed", "r"), ("sis", "r")])
        keeper.woven(["sis", "zed"])
        self.assertEqual(keeper.kept(), [("zed", "r")])
        keeper.step("main")
        self.assertEqual(keeper.kept(), [])
        self.assertEqual(keeper.end(), ("house", (3, (("x", 1),), ("x",))))

    def test_in_order_of_hands_and_shelves(self):
        program = read("shelf z sum 1\nshelf a sum 2\nhand m\nsplit c\nsplit b\njoin c\njoin b\n"
                       "hand b\nmore a 1\nmore z 1\nhand c\nmore a 1\nmore z 1")
        keeper = Keeper(program)
        keeper.woven(["m", "m"])
        self.assertEqual(keeper.kept(), [("b", "z"), ("b", "a"), ("c", "z"), ("c", "a")])

    def test_a_program_without_shelves(self):
        keeper = Keeper(read("hand m\nsplit k\njoin k\nhand k\ntell 1"))
        keeper.step("m")
        self.assertEqual((keeper.kept(), keeper.house("k"), keeper.told("k")), ([], (), []))
        keeper.woven(["k", "m"])
        self.assertEqual((keeper.house("k"), keeper.told("k"), keeper.end()), (None, None, ("house", ())))


class Hands(unittest.TestCase):
    def test_a_hand_that_is_joined_is_let_go(self):
        keeper = Keeper(PROGRAM)
        keeper.woven(["main"] * 5 + ["pal", "aunt", "pal", "pal"])
        self.assertEqual(state(keeper, "pal"), ((5, 13, (("x", 1),), ("p", "q"), 2, (("z", 1),)), 3, [3], None))
        self.assertIs(keeper.step("main"), True)
        self.assertEqual(state(keeper, "pal"), (None, 3, None, None))
        self.assertIs(keeper.step("pal"), False)
        self.assertIs(keeper.step("aunt"), False)
        self.assertEqual(keeper.kept(), KID)
        self.assertIs(keeper.step("main"), False)
        keeper.woven(["kid"] * 6 + ["main"] * 2)
        self.assertEqual(keeper.kept(), [])
        for word, rows in (("kid", 6), ("pal", 3), ("aunt", 1)):
            self.assertEqual(state(keeper, word), (None, rows, None, None))
        house = (7, 113, (("x", 1),), ("p",), 0, (("z", 1),))
        self.assertEqual(state(keeper, "main"), (house, 8, [113], None))
        self.assertEqual(keeper.end(), ("house", house))

    def test_where_a_joiner_is_broken_the_joined_hand_stays(self):
        keeper = Keeper(CLASH)
        keeper.woven(["main"] * 2 + ["aunt"] * 4 + ["kid"] * 2)
        before = [("kid", "p"), ("kid", "n"), ("aunt", "p"), ("aunt", "n"), ("pal", "n")]
        self.assertEqual(keeper.kept(), before)
        self.assertIs(keeper.step("aunt"), True)
        self.assertEqual(keeper.kept(), before)
        self.assertEqual(state(keeper, "aunt"), ((("y", "a"), 4), 4, [3], ("aunt", 4, "p")))
        self.assertEqual(state(keeper, "kid"), ((("x", "a"), 2), 2, [], None))
        self.assertEqual((keeper.was("kid", "p"), keeper.was("kid", "n")), (("a",), 0))
        # Main only hears of it: aunt is not joined either.
        keeper.woven(["pal", "main", "main"])
        self.assertIsNone(keeper.end())
        self.assertIs(keeper.step("main"), True)
        self.assertEqual(state(keeper, "main"), ((("a",), 9), 4, [], ("aunt", 4, "p")))
        self.assertEqual(keeper.kept(), before[:4])
        self.assertEqual(state(keeper, "aunt"), ((("y", "a"), 4), 4, [3], ("aunt", 4, "p")))
        self.assertEqual(keeper.end(), ("broken", "aunt", 4, "p"))

    def test_the_end_is_told_where_no_hand_can_go_on(self):
        text = "shelf p row\nhand m\nsplit k\nsplit j\nlay p 0 x\njoin k\njoin j\nhand k\nlay p 0 y\nhand j\ntell 1"
        keeper = Keeper(read(text))
        keeper.woven(["m", "m", "m", "k", "m"])
        self.assertEqual(keeper.broken("m"), ("m", 3, "p"))
        # The first hand is broken, but j can still go on.
        self.assertIsNone(keeper.end())
        keeper.step("j")
        self.assertEqual(keeper.end(), ("broken", "m", 3, "p"))
        self.assertEqual(Keeper(read("shelf n last 4\nhand m")).end(), ("house", (4,)))

    def test_a_join_that_waits_is_no_end(self):
        keeper = Keeper(read("hand m\nsplit k\njoin k\nhand k\ntell 1"))
        keeper.step("m")
        self.assertIs(keeper.step("m"), False)
        self.assertIsNone(keeper.end())

    def test_a_keeper_keeps_itself_alone(self):
        one, other = Keeper(PROGRAM), Keeper(PROGRAM)
        one.woven(["main"] * 5)
        self.assertEqual((other.kept(), other.rows_done("main")), ([], 0))


class BesideARun(unittest.TestCase):
    """A keeper by any weaving beside a run by the same one."""

    def inner(self, rows_of, word):
        told = {word}
        for row in rows_of[word]:
            if row[0] == "join":
                told |= self.inner(rows_of, row[1])
        return told

    def deeds(self, rows_of, word):
        """The shelves on which a hand, or one that it joins, and so on, has a deed."""
        rows = [row for inner in self.inner(rows_of, word) for row in rows_of[inner]]
        deeds = [row[2] if row[0] == "when" else row for row in rows]
        return {deed[1] for deed in deeds if deed[0] not in ("tell", "split", "join")}

    def asked_back(self, program):
        rows_of = dict(program[1])
        told = {}
        for word, _ in program[1][1:]:
            deeds = self.deeds(rows_of, word)
            told[word] = [shelf for shelf, manner, _ in program[0] if manner != ("last",) and shelf in deeds]
        return told

    def compare(self, program, run, keeper, splits, joined):
        asked = self.asked_back(program)
        shelves = [shelf for shelf, _, _ in program[0]]
        kept = []
        for word, _ in program[1]:
            self.assertEqual(keeper.rows_done(word), run.rows_done(word))
            self.assertEqual(keeper.broken(word), run.broken(word))
            going = run.house(word) is not None and word not in joined
            self.assertEqual(keeper.house(word), run.house(word) if going else None)
            self.assertEqual(keeper.told(word), run.told(word) if going else None)
            for S in shelves:
                held = going and S in asked.get(word, [])
                self.assertEqual(keeper.was(word, S), splits[word][shelves.index(S)] if held else None)
                kept += [(word, S)] if held else []
        self.assertEqual(keeper.kept(), kept)

    def one_step(self, run, keeper, word, rows_of, splits, joined):
        n = run.rows_done(word)
        begun = run.house(word) is not None
        house = run.house(word)
        counted = run.step(word)
        self.assertIs(keeper.step(word), counted)
        if begun and run.rows_done(word) > n:
            row = rows_of[word][n]
            if row[0] == "split":
                splits[row[1]] = house
            if row[0] == "join":
                joined[row[1]] = True

    def test_many_programs(self):
        maker = LetBy(73)
        broken = 0
        for _ in range(120):
            program = maker.program(hands=7, rows=26)
            words = [word for word, _ in program[1]]
            rows_of = dict(program[1])
            run, keeper = Run(program), Keeper(program)
            splits, joined = {}, {}
            for word in maker.chance.choices(words, k=60):
                self.one_step(run, keeper, word, rows_of, splits, joined)
                self.compare(program, run, keeper, splits, joined)
                self.assertEqual(keeper.end() is None, self.can_go_on(run, rows_of))
            while self.can_go_on(run, rows_of):
                self.assertIsNone(keeper.end())
                for word in words:
                    self.one_step(run, keeper, word, rows_of, splits, joined)
                self.compare(program, run, keeper, splits, joined)
            self.assertEqual(keeper.end(), end_of(program), show(program))
            self.assertEqual(keeper.woven(words * 2), 0)
            self.compare(program, run, keeper, splits, joined)
            broken += keeper.end()[0] == "broken"
            if keeper.end()[0] == "house":
                self.assertEqual(keeper.kept(), [])
        self.assertGreater(broken, 10)

    def can_go_on(self, run, rows_of):
        for word, rows in rows_of.items():
            n = run.rows_done(word)
            if run.house(word) is None or run.broken(word) is not None or n == len(rows):
                continue
            other = rows[n][1] if rows[n][0] == "join" else None
            if other is None or run.broken(other) is not None or run.rows_done(other) == len(rows_of[other]):
                return True
        return False

    def test_weavings_count_alike(self):
        maker = LetBy(74)
        for _ in range(60):
            program = maker.program(hands=6, rows=24)
            words = [word for word, _ in program[1]]
            run, keeper = Run(program), Keeper(program)
            for _ in range(12):
                weaving = maker.chance.choices(words, k=20)
                before = list(weaving)
                self.assertEqual(keeper.woven(weaving), run.woven(weaving))
                self.assertEqual(weaving, before)
            self.assertEqual([keeper.rows_done(word) for word in words], [run.rows_done(word) for word in words])


class ToldAndHandedIn(unittest.TestCase):
    def test_lists_are_the_askers_own(self):
        keeper = Keeper(PROGRAM)
        keeper.woven(["main"] * 5 + ["kid"] * 3)
        for asked in (keeper.kept, lambda: keeper.told("kid"), lambda: keeper.told("main")):
            before = list(asked())
            self.assertIs(type(asked()), list)
            asked().append("x")
            asked().clear()
            self.assertEqual(asked(), before)
        told, kept = keeper.told("kid"), keeper.kept()
        keeper.woven(["kid"] * 3 + ["pal", "pal", "aunt", "pal", "main", "main", "main"])
        self.assertEqual((told, kept), ([7], KID + [("pal", "e")]))

    def test_kinds(self):
        keeper = Keeper(WHOLE)
        self.assertIs(type(keeper.step("main")), bool)
        self.assertIs(type(keeper.step("pal")), bool)
        self.assertIs(type(keeper.woven(["main", "kid"])), int)
        self.assertTrue(all(type(pair) is tuple and only_plain(pair) for pair in keeper.kept()))
        self.assertTrue(only_plain(keeper.house("kid")))
        keeper.woven([word for word, _ in WHOLE[1]] * 20)
        self.assertEqual(keeper.end(), end_of(WHOLE))
        self.assertTrue(only_plain(keeper.end()))

    def test_the_program_is_not_changed_and_the_same_is_told(self):
        for program in (PROGRAM, CLASH, HANDED):
            before = copy.deepcopy(program)
            keeper = Keeper(program)
            keeper.woven([word for word, _ in program[1]] * 3)
            for _ in range(2):
                self.assertEqual(keeper.kept(), keeper.kept())
                self.assertEqual(keeper.end(), keeper.end())
                for word, _ in program[1]:
                    self.assertEqual(state(keeper, word), state(keeper, word))
            self.assertEqual(program, before)


if __name__ == "__main__":
    unittest.main()
