import copy
import unittest

from copiedhouse.looker import look
from copiedhouse.papers import check_paper
from copiedhouse.paperwork import gone_over, paper_of, spared
from copiedhouse.reader import read
from copiedhouse.runs import run_to_end
from copiedhouse.writer import show
from tests.samples import FIVE as PROGRAM
from tests.samples import LetBy, Places, only_plain

TELL_0 = ("tell", ("num", 0))

# Mid is broken in row 3, main hears of it in row 2; pal is split behind that, zed by pal.
BROKEN = read("""\
shelf p row a
shelf n sum 0
hand main
split mid
more n 1
join mid
more n 2
split pal
join pal
join zed
hand mid
split kid
lay p 0 x
more n 4
join kid
more n 8
hand kid
lay p 0 y
hand pal
split zed
hand zed
more n 16""")


class Papers(unittest.TestCase):
    def assert_paper(self, program, place, others):
        """That the paper of a place has these lines, in whatever order, and the place's as its last."""
        H, n, S, value, wrote = place
        paper = paper_of(program, H, n, S)
        self.assertIs(type(paper), tuple)
        self.assertEqual(paper[-1], place)
        self.assertEqual(sorted(paper[:-1], key=repr), sorted(others, key=repr))
        self.assertIs(check_paper(program, paper), True)

    def small(self, shelves, rows, place, others):
        self.assert_paper(read(f"{shelves}\nhand m\n{rows}"), place, others)


class PaperOf(Papers):
    def test_the_first_hand_at_0_rows(self):
        for shelf, _, begin in PROGRAM[0]:
            self.assert_paper(PROGRAM, ("main", 0, shelf, begin, False), [])
            self.assertEqual(paper_of(PROGRAM, "main", 0, shelf), (("main", 0, shelf, begin, False),))

    def test_a_hand_at_its_begin_rests_on_its_splitter(self):
        for shelf, _, begin in PROGRAM[0]:
            self.assert_paper(PROGRAM, ("kid", 0, shelf, begin, False), [("main", 0, shelf, begin, False)])

    def test_what_the_splitter_wrote_is_not_written_by_the_hand(self):
        program = read("shelf n last 1\nhand m\nset n 2\nsplit k\nset n 3\njoin k\nhand k\ntell n")
        self.assert_paper(program, ("k", 1, "n", 2, False), [("m", 1, "n", 2, True), ("k", 0, "n", 2, False)])
        # Nothing was written by k, so the shelf stays; but the line rests on k's all the same.
        others = [("m", 1, "n", 2, True), ("m", 3, "n", 3, True), ("k", 0, "n", 2, False), ("k", 1, "n", 2, False)]
        self.assert_paper(program, ("m", 4, "n", 3, True), others)

    def test_a_row_that_is_no_deed_on_the_shelf(self):
        self.small("shelf n last 1\nshelf o last 2", "set o n\ntell n\nwhen n tell 2", ("m", 3, "n", 1, False),
                   [("m", 0, "n", 1, False), ("m", 1, "n", 1, False), ("m", 2, "n", 1, False)])

    def test_a_set_does_not_rest_on_its_own_shelf(self):
        self.small("shelf n last 1\nshelf o sum 2", "set n 7", ("m", 1, "n", 7, True), [])
        self.small("shelf n last 1\nshelf o sum 2", "set n (+ o 1)", ("m", 1, "n", 3, True), [("m", 0, "o", 2, False)])
        self.small("shelf n last 1\nshelf o sum 2", "set n (+ n 1)", ("m", 1, "n", 2, True), [("m", 0, "n", 1, False)])
        self.small("shelf n told 3 1 mine", "set n 7", ("m", 1, "n", 1, True), [])
        self.small("shelf n last 1", "set n 6\nset n 7\ntell n", ("m", 3, "n", 7, True), [("m", 2, "n", 7, True)])

    def test_the_other_deeds_do(self):
        for shelf, begin, deed, value in (
            ("sum 3", 3, "more n 2", 5),
            ("sum 3", 3, "more n 0", 3),
            ("bag x 1", (("x", 1),), "in n x", (("x", 2),)),
            ("bag x 1", (("x", 1),), "out n x", ()),
            ("row x", ("x",), "lay n 0 y", ("y", "x")),
            ("row x", ("x",), "drop n 0", ()),
            ("row x", ("x",), "drop n 1", ("x",)),
        ):
            self.small("shelf n " + shelf, deed, ("m", 1, "n", value, True), [("m", 0, "n", begin, False)])
            self.small("shelf n " + shelf, "when 1 " + deed, ("m", 1, "n", value, True), [("m", 0, "n", begin, False)])

    def test_deeds_rest_on_their_terms(self):
        o = ("m", 0, "o", 2, False)
        self.small("shelf o last 2\nshelf n sum 3", "more n o", ("m", 1, "n", 5, True), [o, ("m", 0, "n", 3, False)])
        self.small("shelf o last 2\nshelf n row x", "lay n o y", ("m", 1, "n", ("x", "y"), True), [o, ("m", 0, "n", ("x",), False)])
        self.small("shelf o last 2\nshelf n row x", "drop n o", ("m", 1, "n", ("x",), True), [o, ("m", 0, "n", ("x",), False)])
        b, r = ("m", 0, "b", (("x", 4),), False), ("m", 0, "r", ("x",), False)
        self.small("shelf b bag x 4\nshelf r row x\nshelf n last 0", "set n (+ (many b x) (long r))", ("m", 1, "n", 5, True), [b, r])
        # Of an if, what isn't taken is asked for too.
        self.small("shelf o last 2\nshelf p last 3\nshelf n last 0", "set n (if 1 o p)", ("m", 1, "n", 2, True), [o, ("m", 0, "p", 3, False)])

    def test_a_shelf_that_is_asked_for_twice_stands_once(self):
        o = ("m", 0, "o", 2, False)
        self.small("shelf o last 2\nshelf n last 0", "set n (+ o (* o o))", ("m", 1, "n", 6, True), [o])
        self.small("shelf o last 2\nshelf n last 0", "when (= o o) set n o", ("m", 1, "n", 2, True), [o])
        n = ("m", 0, "n", 3, False)
        self.small("shelf n sum 3", "more n (+ n n)", ("m", 1, "n", 9, True), [n])
        self.small("shelf n sum 3", "when n more n n", ("m", 1, "n", 6, True), [n])
        self.small("shelf n sum 3", "when (- n n) more n n", ("m", 1, "n", 3, False), [n])

    def test_a_when_whose_guard_is_0(self):
        g, n = ("m", 0, "g", 0, False), ("m", 0, "n", 1, False)
        for rows in ("when g set n o", "when g set n 5"):
            self.small("shelf g last 0\nshelf n last 1\nshelf o last 4", rows, ("m", 1, "n", 1, False), [g, n])
        self.small("shelf n last 1", "when 0 set n 5", ("m", 1, "n", 1, False), [n])
        self.small("shelf g last 0\nshelf n sum 1\nshelf o last 4", "when g more n o", ("m", 1, "n", 1, False), [g, n])

    def test_a_when_whose_guard_is_not_0(self):
        g, n, o = ("m", 0, "g", 2, False), ("m", 0, "n", 1, False), ("m", 0, "o", 4, False)
        self.small("shelf g last 2\nshelf n last 1\nshelf o last 4", "when g set n o", ("m", 1, "n", 4, True), [g, o])
        self.small("shelf g last 2\nshelf n sum 1\nshelf o last 4", "when g more n o", ("m", 1, "n", 5, True), [g, n, o])
        self.small("shelf g last 2\nshelf n last 1", "when g set n 5", ("m", 1, "n", 5, True), [g])
        self.small("shelf n last 1", "when 1 set n 5", ("m", 1, "n", 5, True), [])

    def test_behind_a_join_of_each_manner(self):
        for shelf, begin, mine, middle, yours, ending, value in (
            ("last 1", 1, "set n 2", 2, "set n 3", 3, 3),
            ("sum 1", 1, "more n 2", 3, "more n 3", 4, 6),
            ("bag x 1", (("x", 1),), "in n x", (("x", 2),), "in n y", (("x", 1), ("y", 1)), (("x", 2), ("y", 1))),
            ("row x", ("x",), "lay n 0 y", ("y", "x"), "lay n 1 z", ("x", "z"), ("y", "x", "z")),
            ("told 5 1 (+ mine (+ was yours))", 1, "set n 2", 2, "set n 3", 3, 1),
        ):
            program = read(f"shelf n {shelf}\nhand m\nsplit k\n{mine}\njoin k\nhand k\n{yours}")
            others = [("m", 0, "n", begin, False), ("m", 2, "n", middle, True), ("k", 1, "n", ending, True)]
            if not mine.startswith("set"):
                others += [("m", 1, "n", begin, False), ("k", 0, "n", begin, False)]
            self.assert_paper(program, ("m", 3, "n", value, True), others)

    def test_behind_a_join_by_which_nothing_is_written(self):
        program = read("shelf n last 1\nhand m\nsplit k\njoin k\nhand k")
        others = [("m", 0, "n", 1, False), ("m", 1, "n", 1, False), ("k", 0, "n", 1, False)]
        self.assert_paper(program, ("m", 2, "n", 1, False), others)

    def test_a_hand_joined_by_another_one_than_its_splitter(self):
        program = read("shelf n sum 1\nhand m\nsplit k\njoin k\njoin p\nhand k\nmore n 2\nsplit p\nhand p\nmore n 4")
        m = [("m", 0, "n", 1, False), ("m", 1, "n", 1, False), ("m", 2, "n", 3, True)]
        k = [("k", 0, "n", 1, False), ("k", 1, "n", 3, True), ("k", 2, "n", 3, True)]
        p = [("p", 0, "n", 3, False), ("p", 1, "n", 7, True)]
        self.assert_paper(program, ("m", 3, "n", 7, True), m + k + p)

    def test_where_there_is_none(self):
        for S in ("p", "n"):
            for H, did in (("main", 2), ("mid", 3), ("kid", 1)):
                for n in range(did + 1):
                    self.assertEqual(paper_of(BROKEN, H, n, S)[-1][:3], (H, n, S))
                for n in range(did + 1, 9):
                    self.assertIsNone(paper_of(BROKEN, H, n, S), (H, n))
            for H in ("pal", "zed"):
                for n in (0, 1):
                    self.assertIsNone(paper_of(BROKEN, H, n, S), (H, n))

    def test_more_rows_than_the_hand_has(self):
        self.assertIsNone(paper_of(PROGRAM, "main", 9, "n"))
        self.assertIsNone(paper_of(PROGRAM, "kid", 6, "n"))
        self.assertIsNotNone(paper_of(PROGRAM, "kid", 5, "n"))

    def test_another_hand_that_is_broken_hinders_no_paper(self):
        self.assertEqual(paper_of(BROKEN, "main", 2, "n")[-1], ("main", 2, "n", 1, True))
        self.assertEqual(paper_of(BROKEN, "mid", 3, "p")[-1], ("mid", 3, "p", ("x", "a"), True))

    def test_greater_programs_of_texts(self):
        letters = "abcdefghijklmnopqrstuvwxyz"
        words = ["h" + one + other for one in letters for other in letters][:400]
        lines = ["shelf n sum 0"]
        for word, later in zip(words, words[1:] + [None]):
            lines.extend(["hand " + word, "more n 1"])
            lines.extend(["split " + later, "join " + later] if later else [])
        paper = paper_of(read("\n".join(lines)), "haa", 3, "n")
        self.assertEqual(paper[-1], ("haa", 3, "n", 400, True))
        self.assertEqual(len(paper), 400 * 4 - 2)
        lines = ["shelf n last 0", "hand m"] + ["set n (+ n 1)"] * 1200
        paper = paper_of(read("\n".join(lines)), "m", 1200, "n")
        self.assertEqual(paper, tuple(("m", k, "n", k, k > 0) for k in range(1201)))

    def test_a_greater_program_whose_lines_rest_on_two_each(self):
        lines = ["shelf a last 1", "shelf b last 1", "hand m"] + ["set a (+ a b)", "set b (+ a b)"] * 300
        program = read("\n".join(lines))
        paper = paper_of(program, "m", 600, "b")
        self.assertEqual(paper[-1][3], run_to_end(program).house("m")[1])
        self.assertIs(check_paper(program, paper), True)


class GoneOver(unittest.TestCase):
    def over(self, H, n, S):
        return gone_over(PROGRAM, paper_of(PROGRAM, H, n, S))

    def test_nothing(self):
        self.assertEqual(gone_over(PROGRAM, ()), [])
        self.assertEqual(self.over("main", 0, "n"), [])
        self.assertEqual(self.over("kid", 0, "n"), [])
        self.assertEqual(self.over("main", 1, "n"), [])
        self.assertEqual(self.over("kid", 1, "t"), [])

    def test_deeds(self):
        self.assertEqual(self.over("main", 2, "n"), [("main", 1)])
        self.assertEqual(self.over("main", 3, "s"), [("main", 1), ("main", 2)])
        self.assertEqual(self.over("main", 4, "n"), [("main", 1), ("main", 3)])
        self.assertEqual(self.over("kid", 3, "r"), [("kid", 2)])
        self.assertEqual(self.over("kid", 2, "r"), [])

    def test_a_line_behind_the_next_row_is_none_of_the_deed(self):
        line = ("main", 2, "n", 15, True)
        self.assertEqual(gone_over(PROGRAM, (line,)), [("main", 1)])
        self.assertEqual(gone_over(PROGRAM, (("main", 1, "n", 1, False),)), [])
        self.assertEqual(gone_over(PROGRAM, (("main", 3, "n", 15, True),)), [])
        self.assertEqual(gone_over(PROGRAM, (("main", 2, "s", 10, False),)), [])

    def test_whens_also_where_the_guard_is_0(self):
        self.assertEqual(gone_over(PROGRAM, (("main", 4, "n", 15, True),)), [("main", 3)])
        self.assertEqual(gone_over(PROGRAM, (("main", 5, "t", 2, True),)), [("main", 4)])
        self.assertEqual(gone_over(PROGRAM, (("main", 5, "b", (("x", 1),), False),)), [])

    def test_no_tells_and_splits(self):
        paper = tuple(("main", n, S, 0, False) for n in (1, 6) for S in "nsbrt")
        self.assertEqual(gone_over(PROGRAM, paper), [])
        program = read("shelf n last 1\nhand m\nwhen 1 tell n")
        self.assertEqual(gone_over(program, paper_of(program, "m", 1, "n")), [])

    def test_joins_by_any_shelf(self):
        for S in "nsbrt":
            self.assertEqual(gone_over(PROGRAM, (("main", 7, S, 0, False),)), [("main", 6)])
        self.assertEqual(gone_over(PROGRAM, (("main", 6, "n", 0, False),)), [])
        self.assertEqual(gone_over(PROGRAM, (("main", 7, "n", 0, False), ("main", 7, "s", 0, False))), [("main", 6)])
        self.assertEqual(self.over("main", 7, "b"), [("main", 6), ("kid", 1)])

    def test_in_order_of_hands_and_rows(self):
        program = read("shelf n sum 0\nhand m\nsplit z\nmore n 1\njoin z\nmore n 2\nhand a\nmore n 4\nmore n 8\nhand z\nsplit a\njoin a")
        paper = paper_of(program, "m", 4, "n")
        told = [("m", 1), ("m", 2), ("m", 3), ("a", 0), ("a", 1), ("z", 1)]
        self.assertEqual(gone_over(program, paper), told)
        self.assertEqual(gone_over(program, tuple(reversed(paper))), told)
        self.assertEqual(gone_over(program, paper + paper), told)

    def test_a_new_list(self):
        paper = paper_of(PROGRAM, "main", 3, "s")
        told = gone_over(PROGRAM, paper)
        self.assertIs(type(told), list)
        told.clear()
        self.assertEqual(gone_over(PROGRAM, paper), [("main", 1), ("main", 2)])


class Spared(unittest.TestCase):
    def test_a_paper_of_one_line_spares_nearly_all(self):
        paper = paper_of(PROGRAM, "main", 0, "s")
        program = spared(PROGRAM, paper)
        main = (("split", "kid"),) + (TELL_0,) * 5 + (("join", "kid"), TELL_0)
        self.assertEqual(program, (PROGRAM[0], (("main", main), ("kid", (TELL_0,) * 5))))
        self.assertEqual(spared(PROGRAM, ()), program)
        program = read("shelf n last 1\nshelf m sum 1\nhand m\nset n 4\nset n 5\nmore m 1")
        paper = paper_of(program, "m", 2, "n")
        self.assertEqual(len(paper), 1)
        self.assertEqual(show(spared(program, paper)), "shelf n last 1\nshelf m sum 1\nhand m\ntell 0\nset n 5\ntell 0")

    def test_what_is_gone_over_stays(self):
        program = spared(PROGRAM, paper_of(PROGRAM, "main", 4, "n"))
        rows = list(PROGRAM[1][0][1])
        for k in (2, 4, 5, 7):
            rows[k] = TELL_0
        self.assertEqual(program, (PROGRAM[0], (("main", tuple(rows)), ("kid", (TELL_0,) * 5))))

    def test_tells_become_tell_0_also_in_whens(self):
        program = read("shelf n last 1\nhand m\ntell n\nwhen n tell 5\nset n 2")
        paper = paper_of(program, "m", 3, "n")
        self.assertEqual(show(spared(program, paper)), "shelf n last 1\nhand m\ntell 0\ntell 0\nset n 2")

    def test_a_program_without_shelves(self):
        program = read("hand m\nsplit k\ntell 5\njoin k\nhand k\ntell 7")
        self.assertEqual(show(spared(program, ())), "hand m\nsplit k\ntell 0\njoin k\nhand k\ntell 0")

    def test_a_clash_of_a_shelf_that_the_paper_does_not_ask_for_may_fall_out(self):
        paper = paper_of(BROKEN, "mid", 3, "n")
        program = spared(BROKEN, paper)
        self.assertIs(look(program), True)
        self.assertIs(check_paper(program, paper), True)
        self.assertIsNone(run_to_end(program).broken("main"))


class ManyPapers(unittest.TestCase):
    def closure(self, places, place):
        """All places that one rests on, itself too."""
        met, waiting = {place}, [place]
        while waiting:
            for rested in places.rests(*waiting.pop()):
                if rested not in met:
                    met.add(rested)
                    waiting.append(rested)
        return met

    def look_at_paper(self, program, places, place):
        paper = paper_of(program, *place)
        self.assertEqual(paper[-1][:3], place)
        self.assertEqual({line[:3] for line in paper}, self.closure(places, place))
        self.assertEqual(len({line[:3] for line in paper}), len(paper))
        for k, line in enumerate(paper):
            self.assertEqual(line[3:], places.line(*line[:3]))
            self.assertTrue(only_plain(line[:4]) and type(line[4]) is bool)
            self.assertTrue(all(rested in [other[:3] for other in paper[:k]] for rested in places.rests(*line[:3])))
        self.assertIs(check_paper(program, paper), True)
        return paper

    def look_at_spared(self, program, paper):
        told = gone_over(program, paper)
        lines = {line[:3] for line in paper}
        shelves = [word for word, _, _ in program[0]]
        due, hands = [], []
        for word, rows in program[1]:
            kept = []
            for k, row in enumerate(rows):
                deed = row[2] if row[0] == "when" else row
                named = shelves if row[0] == "join" else [] if row[0] == "split" or deed[0] == "tell" else [deed[1]]
                over = any((word, k + 1, S) in lines for S in named)
                due += [(word, k)] if over else []
                kept.append(row if over or row[0] in ("split", "join") else TELL_0)
            hands.append((word, tuple(kept)))
        self.assertEqual(told, due)
        program = spared(program, paper)
        self.assertEqual(program[1], tuple(hands))
        self.assertIs(look(program), True)
        self.assertIs(check_paper(program, paper), True, show(program))

    def test_each_place_of_many_programs(self):
        maker = LetBy(71)
        papers = none = 0
        for _ in range(60):
            program = maker.program(hands=6, rows=24)
            places = Places(program)
            run = run_to_end(program)
            for word, rows in program[1]:
                for n in range(len(rows) + 1):
                    for shelf in maker.chance.sample(program[0], min(2, len(program[0]))):
                        if run.house(word) is None or run.rows_done(word) < n:
                            self.assertIsNone(paper_of(program, word, n, shelf[0]))
                            none += 1
                            continue
                        paper = self.look_at_paper(program, places, (word, n, shelf[0]))
                        self.look_at_spared(program, paper)
                        papers += 1
        self.assertGreater(papers, 1000)
        self.assertGreater(none, 50)

    def test_papers_put_together(self):
        maker = LetBy(72)
        for _ in range(40):
            program = maker.program(hands=5, rows=20)
            run = run_to_end(program)
            paper = ()
            for word, rows in program[1] * 2:
                for shelf in maker.chance.sample(program[0], min(1, len(program[0]))):
                    paper += paper_of(program, word, maker.chance.randint(0, run.rows_done(word)), shelf[0]) or ()
            self.assertIs(check_paper(program, paper), True)
            self.look_at_spared(program, paper)


class ToldAndHandedIn(unittest.TestCase):
    def test_nothing_is_changed_and_the_same_is_told(self):
        for program in (PROGRAM, BROKEN):
            before = copy.deepcopy(program)
            for word, rows in program[1]:
                paper = paper_of(program, word, len(rows), "n")
                self.assertEqual(paper_of(program, word, len(rows), "n"), paper)
                if paper is not None:
                    kept = copy.deepcopy(paper)
                    self.assertEqual(gone_over(program, paper), gone_over(program, paper))
                    self.assertEqual(spared(program, paper), spared(program, paper))
                    self.assertEqual(paper, kept)
            self.assertEqual(program, before)


if __name__ == "__main__":
    unittest.main()
