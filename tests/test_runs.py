import copy
import unittest

from copiedhouse.reader import read
from copiedhouse.runs import Run, end_of, run_to_end
from copiedhouse.writer import show
from tests.samples import WHOLE, WIDE, LetBy, Places, only_plain

LAST = WIDE - 1

SMALL = read("""\
shelf n last 1
shelf s sum 10
hand main
split kid
more s 5
set n 2
join kid
tell s
hand kid
tell n
more s 100
tell s""")

# Two rows clash in the join of kid; main and aunt only hear of it.
CLASH = read("""\
shelf n last 0
shelf p row a
shelf q row b
hand main
split aunt
split pal
join aunt
tell 1
join pal
hand kid
set n 5
lay p 0 x
lay q 0 x
hand aunt
tell 3
split kid
lay p 0 y
lay q 0 y
set n 7
join kid
tell 4
hand pal
tell 9
tell 8""")


def state(run, word):
    return (run.house(word), run.rows_done(word), run.told(word), run.wrote(word), run.broken(word))


def states(run, program):
    return {word: state(run, word) for word, _ in program[1]}


class Steps(unittest.TestCase):
    def test_at_first(self):
        run = Run(SMALL)
        self.assertEqual(state(run, "main"), ((1, 10), 0, [], [], None))
        self.assertEqual(state(run, "kid"), (None, 0, [], [], None))

    def test_a_hand_that_is_not_begun_does_nothing(self):
        run = Run(SMALL)
        self.assertIs(run.step("kid"), False)
        self.assertEqual(states(run, SMALL), states(Run(SMALL), SMALL))

    def test_a_split_begins_a_hand_with_a_copy_and_nothing_written(self):
        program = read("shelf n last 1\nhand main\nset n 5\nsplit kid\nset n 6\njoin kid\nhand kid\ntell n")
        run = Run(program)
        self.assertEqual(run.woven(["main"]), 1)
        self.assertIs(run.step("main"), True)
        self.assertEqual(state(run, "kid"), ((5,), 0, [], [], None))
        self.assertEqual(state(run, "main"), ((5,), 2, [], ["n"], None))
        run.step("main")
        self.assertEqual(run.house("kid"), (5,))
        self.assertEqual(run.house("main"), (6,))
        run.step("kid")
        self.assertEqual(run.told("kid"), [5])

    def test_each_hand_goes_on_alone(self):
        run = Run(SMALL)
        self.assertEqual(run.woven(["main", "main", "kid", "kid", "main", "kid"]), 6)
        self.assertEqual(state(run, "main"), ((2, 15), 3, [], ["n", "s"], None))
        self.assertEqual(state(run, "kid"), ((1, 110), 3, [1, 110], ["s"], None))

    def test_a_join_waits_for_the_end_of_the_hand(self):
        run = Run(SMALL)
        run.woven(["main"] * 3)
        before = states(run, SMALL)
        self.assertIs(run.step("main"), False)
        self.assertEqual(states(run, SMALL), before)
        run.woven(["kid", "kid"])
        self.assertIs(run.step("main"), False)
        run.step("kid")
        self.assertIs(run.step("main"), True)
        self.assertEqual(state(run, "main"), ((2, 115), 4, [], ["n", "s"], None))
        self.assertEqual(state(run, "kid"), ((1, 110), 3, [1, 110], ["s"], None))

    def test_a_hand_at_its_end_does_nothing(self):
        run = run_to_end(SMALL)
        before = states(run, SMALL)
        for word in ("main", "kid"):
            self.assertIs(run.step(word), False)
        self.assertEqual(states(run, SMALL), before)
        self.assertEqual(before["main"], ((2, 115), 5, [115], ["n", "s"], None))

    def test_a_when_of_0_is_a_row_that_is_done(self):
        program = read("shelf n last 1\nhand main\nwhen 0 set n 2\nwhen 0 tell 3\nwhen 1 tell 4")
        run = Run(program)
        self.assertIs(run.step("main"), True)
        self.assertEqual(state(run, "main"), ((1,), 1, [], [], None))
        self.assertEqual(run.woven(["main"] * 5), 2)
        self.assertEqual(state(run, "main"), ((1,), 3, [4], [], None))

    def test_a_deed_by_which_nothing_becomes_other_is_written(self):
        program = read("shelf n last 1\nhand main\nset n 1")
        self.assertEqual(run_to_end(program).wrote("main"), ["n"])

    def test_wrote_in_order_of_the_shelves(self):
        program = read("shelf z last 0\nshelf m sum 0\nshelf a bag\nhand main\nin a x\nmore m 1\nset z 1\nin a x")
        self.assertEqual(run_to_end(program).wrote("main"), ["z", "m", "a"])

    def test_a_hand_without_rows(self):
        run = Run(read("hand main"))
        self.assertIs(run.step("main"), False)
        self.assertEqual(state(run, "main"), ((), 0, [], [], None))
        program = read("shelf n last 1\nhand main\nsplit kid\nset n 2\njoin kid\nhand kid")
        self.assertEqual(end_of(program), ("house", (2,)))


class Joins(unittest.TestCase):
    def end(self, shelf, main, kid, more=""):
        text = f"{shelf}\nhand main\nsplit kid\n{main}join kid{more}\nhand kid{kid}"
        return end_of(read(text))

    def test_last(self):
        self.assertEqual(self.end("shelf n last 1", "set n 2\n", "\nset n 3"), ("house", (3,)))
        self.assertEqual(self.end("shelf n last 1", "set n 2\n", "\nset n 1"), ("house", (1,)))
        self.assertEqual(self.end("shelf n last 1", "set n 2\n", "\ntell 3"), ("house", (2,)))
        self.assertEqual(self.end("shelf n last 1", "set n 2\n", "\nwhen 0 set n 3"), ("house", (2,)))

    def test_sum_and_bag(self):
        self.assertEqual(self.end("shelf n sum 9", "more n 1\n", "\nmore n 4294967290"), ("house", (4,)))
        self.assertEqual(self.end("shelf n bag x 1", "out n x\n", "\nout n x\nin n y"), ("house", ((("x", -1), ("y", 1)),)))

    def test_told(self):
        told = "shelf n told 5 1 (+ (* mine 2) (+ yours was))"
        self.assertEqual(self.end(told, "set n 2\n", "\nset n 4"), ("house", (4,)))
        self.assertEqual(self.end(told, "set n 2\n", ""), ("house", (2,)))
        self.assertEqual(self.end(told, "set n 2\n", "\nset n 1"), ("house", (1,)))

    def test_row(self):
        self.assertEqual(self.end("shelf n row a b c", "drop n 0\n", "\nlay n 3 d"), ("house", (("b", "c", "d"),)))
        self.assertEqual(self.end("shelf n row a b c", "lay n 1 x\n", "\nlay n 1 y"), ("broken", "main", 2, "n"))
        self.assertEqual(self.end("shelf n row a b c", "lay n 1 x\n", "\nlay n 1 x"), ("house", (("a", "x", "b", "c"),)))

    def test_was_is_the_house_at_the_split(self):
        text = "shelf n sum 1\nhand main\nmore n 10\nsplit kid\nmore n 100\njoin kid\nhand kid\nmore n 1000"
        self.assertEqual(end_of(read(text)), ("house", (1111,)))

    def test_what_the_joined_hand_wrote_is_written_too(self):
        text = "shelf n last 1\nshelf m sum 0\nhand main\nsplit kid\nsplit pal\njoin kid\njoin pal\n"
        text += "hand kid\nmore m 0\nhand pal\nset n 3"
        program = read(text)
        run = Run(program)
        self.assertEqual(run.woven(["main", "main", "kid", "pal"]), 4)
        self.assertEqual(run.wrote("main"), [])
        run.step("main")
        self.assertEqual(run.wrote("main"), ["m"])
        run.step("main")
        self.assertEqual(run.wrote("main"), ["n", "m"])
        self.assertEqual(run.wrote("kid"), ["m"])

    def test_what_a_hand_that_it_joined_wrote_counts_where_it_is_joined(self):
        text = "shelf n last 1\nhand main\nsplit kid\nset n 2\njoin kid\nhand kid\nsplit pal\njoin pal\nhand pal\nset n 1"
        self.assertEqual(end_of(read(text)), ("house", (1,)))
        self.assertEqual(run_to_end(read(text)).wrote("kid"), ["n"])
        told = read(text.replace("last 1", "told 3 1 (+ mine yours)"))
        # Kid comes to 1 and 1, main to 2 and 2, the rest by 3.
        self.assertEqual(end_of(told), ("house", (1,)))

    def test_what_its_splitter_wrote_ahead_of_the_split_does_not_count(self):
        text = "shelf n last 1\nhand main\nset n 4\nsplit kid\nset n 2\njoin kid\nhand kid"
        self.assertEqual(end_of(read(text)), ("house", (2,)))
        self.assertEqual(run_to_end(read(text)).wrote("kid"), [])

    def test_a_hand_joined_by_another_one_than_its_splitter(self):
        text = "shelf n sum 0\nshelf r row a\nhand main\nmore n 1\nsplit kid\nmore n 10\njoin kid\njoin pal\n"
        text += "hand kid\nmore n 100\nlay r 0 k\nsplit pal\nmore n 1000\nhand pal\nmore n 10000\nlay r 2 p"
        program = read(text)
        self.assertEqual(end_of(program), ("house", (11111, ("k", "a", "p"))))
        run = Run(program)
        self.assertEqual(run.woven(["main"] * 3 + ["kid"] * 4 + ["main"]), 8)
        self.assertEqual(run.house("main"), (1111, ("k", "a")))
        self.assertIs(run.step("main"), False)
        self.assertEqual(run.woven(["pal", "pal", "main"]), 3)
        self.assertEqual(run.rows_done("main"), 5)


class Broken(unittest.TestCase):
    def test_the_first_shelf_that_clashes_is_told(self):
        self.assertEqual(end_of(CLASH), ("broken", "aunt", 5, "p"))
        text = show(CLASH).replace("lay p 0 y", "tell 7")
        self.assertEqual(end_of(read(text)), ("broken", "aunt", 5, "q"))
        text = show(CLASH).replace("lay q 0 y", "tell 7")
        self.assertEqual(end_of(read(text)), ("broken", "aunt", 5, "p"))

    def test_by_the_clash_the_hand_stays_as_it_is(self):
        run = Run(CLASH)
        run.woven(["main", "main", "aunt", "aunt", "kid", "kid", "kid", "aunt", "aunt", "aunt"])
        before = state(run, "aunt")
        self.assertEqual(before, ((7, ("y", "a"), ("y", "b")), 5, [3], ["n", "p", "q"], None))
        self.assertIs(run.step("aunt"), True)
        self.assertEqual(state(run, "aunt"), before[:4] + (("aunt", 5, "p"),))

    def test_what_the_joined_hand_wrote_is_not_written_by_a_clash(self):
        text = "shelf n last 0\nshelf p row\nhand main\nsplit kid\nlay p 0 x\njoin kid\nhand kid\nset n 1\nlay p 0 y"
        run = run_to_end(read(text))
        self.assertEqual(state(run, "main"), ((0, ("x",)), 2, [], ["p"], ("main", 2, "p")))
        self.assertEqual(state(run, "kid"), ((1, ("y",)), 2, [], ["n", "p"], None))

    def test_a_broken_hand_does_nothing_more(self):
        run = run_to_end(CLASH)
        before = states(run, CLASH)
        for word, _ in CLASH[1]:
            self.assertIs(run.step(word), False)
        self.assertEqual(states(run, CLASH), before)

    def test_a_join_of_a_broken_hand_is_broken_by_the_very_same(self):
        run = Run(CLASH)
        run.woven(["main", "main"] + ["aunt"] * 2 + ["kid"] * 3 + ["aunt"] * 3)
        self.assertIs(run.step("main"), False)
        run.step("aunt")
        before = state(run, "main")
        self.assertIs(run.step("main"), True)
        self.assertEqual(state(run, "main"), before[:4] + (("aunt", 5, "p"),))
        self.assertEqual(run.rows_done("main"), 2)
        self.assertIs(run.step("main"), False)

    def test_the_others_go_on(self):
        run = run_to_end(CLASH)
        self.assertEqual(run.told("pal"), [9, 8])
        self.assertEqual(run.rows_done("pal"), 2)
        self.assertIsNone(run.broken("pal"))
        self.assertIsNone(run.broken("kid"))

    def test_a_hand_that_is_never_begun(self):
        text = "shelf p row\nhand main\nsplit kid\nlay p 0 x\njoin kid\nsplit pal\njoin pal\nhand kid\nlay p 0 y\nhand pal\ntell 1"
        run = run_to_end(read(text))
        self.assertEqual(state(run, "pal"), (None, 0, [], [], None))
        self.assertIs(run.step("pal"), False)


class Weavings(unittest.TestCase):
    def test_how_many_steps_counted(self):
        run = Run(SMALL)
        self.assertEqual(run.woven([]), 0)
        self.assertEqual(run.woven(["kid", "main", "kid", "main", "main", "main"]), 4)
        self.assertEqual(run.woven(["main", "kid", "kid", "kid", "main"]), 3)
        self.assertEqual(run.woven(["main", "main", "kid"]), 1)
        self.assertIs(type(Run(SMALL).woven(["main", "main"])), int)

    def test_a_weaving_is_its_steps(self):
        weaving = ["main", "kid", "kid", "main", "kid", "main", "main", "main"] * 50
        one, other = Run(SMALL), Run(SMALL)
        counted = [other.step(word) for word in weaving]
        self.assertTrue(all(type(truth) is bool for truth in counted))
        self.assertEqual(one.woven(weaving), sum(counted))
        self.assertEqual(states(one, SMALL), states(other, SMALL))

    def test_the_weaving_is_not_changed(self):
        weaving = ["main", "kid", "main"]
        Run(SMALL).woven(weaving)
        self.assertEqual(weaving, ["main", "kid", "main"])

    def test_whatever_the_weaving_each_hand_stands_the_same_at_each_of_its_rows(self):
        maker = LetBy(51)
        met = {"house": 0, "broken": 0}
        for _ in range(250):
            program = maker.program(hands=6, rows=24)
            words = [word for word, _ in program[1]]
            end = end_of(program)
            met[end[0]] += 1
            seen = {}
            for _ in range(4):
                run = Run(program)
                counted = 0
                for word in maker.chance.choices(words, k=400):
                    counted += run.step(word)
                    told = (run.house(word), run.told(word), run.wrote(word))
                    if run.house(word) is not None:
                        self.assertEqual(seen.setdefault((word, run.rows_done(word)), told), told)
                many = 1
                while many:
                    maker.chance.shuffle(words)
                    many = run.woven(words)
                    counted += many
                self.assertEqual(self.end_of_run(program, run), end, show(program))
                self.assertEqual(states(run, program), states(run_to_end(program), program))
                rows = sum(run.rows_done(word) for word in words)
                self.assertEqual(counted, rows + sum(run.broken(word) is not None for word in words))
        self.assertGreater(met["broken"], 20)
        self.assertGreater(met["house"], 100)

    def end_of_run(self, program, run):
        first = program[1][0][0]
        if run.broken(first) is not None:
            return ("broken", *run.broken(first))
        self.assertEqual(run.rows_done(first), len(program[1][0][1]))
        return ("house", run.house(first))


class AgainstPlaces(unittest.TestCase):
    """Runs against what is asked for backwards, shelf by shelf."""

    def fault(self, places, word):
        for k, row in enumerate(places.rows[word]):
            if row[0] == "join":
                other = self.fault(places, row[1])
                if other is not None:
                    return (k, other[1])
                if places.clash(word, k) is not None:
                    return (k, (word, k, places.clash(word, k)))
        return None

    def test_each_step_of_many_programs(self):
        maker = LetBy(52)
        broken = 0
        for _ in range(200):
            program = maker.program(hands=6, rows=24)
            words = [word for word, _ in program[1]]
            places = Places(program)
            run = Run(program)
            for word in maker.chance.choices(words, k=150):
                self.one_step(places, run, word)
            run.woven(words * 60)
            for word in words:
                fault = self.fault(places, word)
                if run.house(word) is not None:
                    self.assertEqual(run.broken(word), fault and fault[1])
                    self.assertEqual(run.rows_done(word), fault[0] if fault else len(places.rows[word]))
                    self.assertEqual(self.standing(run, word), places.standing(word, run.rows_done(word)))
                broken += fault is not None
        self.assertGreater(broken, 20)

    def standing(self, run, word):
        return (run.house(word), run.told(word), run.wrote(word))

    def one_step(self, places, run, word):
        n = run.rows_done(word)
        rows = places.rows[word]
        over = run.house(word) is None or run.broken(word) is not None or n == len(rows)
        waits = False
        if not over and rows[n][0] == "join":
            other = rows[n][1]
            waits = run.broken(other) is None and run.rows_done(other) < len(places.rows[other])
        self.assertEqual(run.step(word), not over and not waits)
        if run.house(word) is not None:
            self.assertEqual(self.standing(run, word), places.standing(word, run.rows_done(word)))
            self.assertTrue(only_plain(run.house(word)))


class ToldAndHandedIn(unittest.TestCase):
    def test_lists_are_the_askers_own(self):
        run = run_to_end(SMALL)
        for asked in (run.told, run.wrote):
            before = list(asked("main"))
            self.assertIs(type(asked("main")), list)
            asked("main").append("x")
            asked("main").clear()
            self.assertEqual(asked("main"), before)
            self.assertIsNot(asked("main"), asked("main"))
        fresh = Run(SMALL)
        for asked in (fresh.told, fresh.wrote):
            asked("kid").append("x")
            self.assertEqual(asked("kid"), [])

    def test_what_was_told_is_not_changed_by_later_steps(self):
        run = Run(SMALL)
        run.woven(["main", "kid"])
        told, wrote, house = run.told("kid"), run.wrote("main"), run.house("main")
        run.woven(["main", "main", "kid", "kid", "main", "main"])
        self.assertEqual((told, wrote, house), ([1], [], (1, 10)))

    def test_runs_do_not_hinder_one_another(self):
        one, other = Run(SMALL), Run(SMALL)
        one.woven(["main", "main", "kid"])
        self.assertEqual(states(other, SMALL), states(Run(SMALL), SMALL))
        self.assertEqual(states(run_to_end(SMALL), SMALL), states(run_to_end(SMALL), SMALL))

    def test_the_program_is_not_changed(self):
        for program in (SMALL, CLASH, WHOLE):
            before = copy.deepcopy(program)
            first = end_of(program)
            self.assertEqual(end_of(program), first)
            self.assertIs(type(first), tuple)
            self.assertEqual(program, before)

    def test_asking_is_no_step(self):
        run = Run(SMALL)
        run.woven(["main", "main", "kid"])
        self.assertEqual(states(run, SMALL), states(run, SMALL))


class Ends(unittest.TestCase):
    def test_a_house(self):
        self.assertEqual(end_of(SMALL), ("house", (2, 115)))
        self.assertEqual(end_of(read("hand main")), ("house", ()))
        self.assertEqual(end_of(read("shelf n bag x 1\nhand main")), ("house", ((("x", 1),),)))
        things = (("apple", 3), ("nut", -4), ("pear", 999999999))
        # Zed is split when the row is as it began, and drops its first word; main lays one at its end.
        self.assertEqual(end_of(WHOLE), ("house", (7, LAST - 2, things, ("apple", "nut", "pear"), 1, (), ())))

    def test_run_to_end_is_a_run_in_which_no_hand_can_go_on(self):
        for program in (SMALL, CLASH, WHOLE):
            run = run_to_end(program)
            self.assertIsInstance(run, Run)
            self.assertEqual(run.woven([word for word, _ in program[1]] * 3), 0)
            self.assertEqual(run.house(program[1][0][0]) is None, False)

    def test_greater_programs_of_texts(self):
        letters = "abcdefghijklmnopqrstuvwxyz"
        words = [one + other for one in letters for other in letters][:500]
        lines = ["shelf n sum 0"]
        for k, word in enumerate(words):
            lines.extend(["hand h" + word, "more n 1"])
            if k + 1 < len(words):
                lines.extend(["split h" + words[k + 1], "join h" + words[k + 1]])
        self.assertEqual(end_of(read("\n".join(lines))), ("house", (500,)))
        lines = ["shelf s" + word + " last 0" for word in words] + ["hand m"] + ["set s" + word + " (+ saa 1)" for word in words]
        self.assertEqual(end_of(read("\n".join(lines)))[1], (1,) + (2,) * 499)


if __name__ == "__main__":
    unittest.main()
