import copy
import unittest

from copiedhouse.errors import NoPaper
from copiedhouse.papers import check_paper
from copiedhouse.reader import read
from copiedhouse.runs import Run
from copiedhouse.writer import show
from tests.samples import FIVE as PROGRAM
from tests.samples import WIDE, LetBy, Places

LAST = WIDE - 1

BEGINS = {"n": 1, "s": 10, "b": (("x", 1),), "r": ("p", "q"), "t": 2}


def wrong_at(program, paper):
    """The number of the first line that isn't right, or None where the paper is let by."""
    try:
        told = check_paper(program, tuple(paper))
    except NoPaper as error:
        assert type(error.at) is int
        return error.at
    assert told is True
    return None


def begin(word):
    return ("main", 0, word, BEGINS[word], False)


def kept(hand, first, last, word, value, wrote):
    """Lines of a shelf that stays as it is."""
    return [(hand, n, word, value, wrote) for n in range(first, last + 1)]


class Papers(unittest.TestCase):
    def assert_right(self, *lines):
        self.assertIsNone(wrong_at(PROGRAM, lines))

    def assert_wrong(self, at, *lines):
        self.assertEqual(wrong_at(PROGRAM, lines), at, lines)

    def assert_only(self, lines, last):
        """That behind these lines this one is right, no line of another value or truth is, and that it rests on each."""
        self.assert_right(*lines, last)
        others = [0, 1, 2, LAST, (), ("p",), ("x", "p"), (("x", 1),), (("x", 2), ("y", 1))]
        for value in others:
            if value != last[3]:
                self.assert_wrong(len(lines), *lines, last[:3] + (value, last[4]))
        self.assert_wrong(len(lines), *lines, last[:4] + (not last[4],))


class EachSortOfLine(Papers):
    def test_the_paper_without_lines(self):
        self.assertIs(check_paper(PROGRAM, ()), True)
        self.assertIs(check_paper(read("hand m"), ()), True)

    def test_the_begin_of_the_first_hand(self):
        for word in BEGINS:
            self.assert_only([], begin(word))

    def test_the_begin_of_another_hand(self):
        for word in BEGINS:
            self.assert_wrong(0, ("kid", 0, word, BEGINS[word], False))
            self.assert_only([begin(word)], ("kid", 0, word, BEGINS[word], False))

    def test_the_begin_of_another_hand_is_not_written_where_its_splitter_wrote(self):
        program = read("shelf n last 1\nhand m\nset n 2\nsplit k\njoin k\nhand k\nset n 3")
        lines = [("m", 1, "n", 2, True)]
        self.assertIsNone(wrong_at(program, lines + [("k", 0, "n", 2, False)]))
        self.assertEqual(wrong_at(program, lines + [("k", 0, "n", 2, True)]), 1)
        self.assertEqual(wrong_at(program, [("m", 0, "n", 1, False), ("k", 0, "n", 1, False)]), 1)
        # The line behind the split is another place than the one ahead of it.
        self.assertEqual(wrong_at(program, [("m", 2, "n", 2, True)]), 0)
        self.assertIsNone(wrong_at(program, lines + [("m", 2, "n", 2, True)]))

    def test_a_row_that_is_no_deed_on_the_shelf(self):
        for word in BEGINS:
            self.assert_only([begin(word)], ("main", 1, word, BEGINS[word], False))
        self.assert_only([begin("s"), *kept("main", 1, 1, "s", 10, False)], ("main", 2, "s", 10, False))
        self.assert_wrong(0, ("main", 1, "n", 1, False))

    def test_a_set_rests_on_its_term_alone(self):
        lines = [begin("s"), ("main", 1, "s", 10, False)]
        self.assert_only(lines, ("main", 2, "n", 15, True))
        self.assert_wrong(1, begin("s"), ("main", 2, "n", 15, True))
        self.assert_wrong(2, begin("n"), ("main", 1, "n", 1, False), ("main", 2, "n", 15, True))

    def test_a_set_that_asks_for_its_own_shelf(self):
        program = read("shelf n last 1\nhand m\nset n (+ n 1)\nset n 7")
        self.assertEqual(wrong_at(program, [("m", 1, "n", 2, True)]), 0)
        self.assertIsNone(wrong_at(program, [("m", 0, "n", 1, False), ("m", 1, "n", 2, True)]))
        self.assertIsNone(wrong_at(program, [("m", 2, "n", 7, True)]))

    def test_a_deed_that_is_no_set_rests_on_its_shelf_too(self):
        n = [begin("s"), ("main", 1, "s", 10, False), ("main", 2, "n", 15, True)]
        s = [("main", 2, "s", 10, False)]
        self.assert_only(n + s, ("main", 3, "s", 25, True))
        self.assert_wrong(3, *n, ("main", 3, "s", 25, True))
        self.assert_wrong(3, *n[:2], *s, ("main", 3, "s", 25, True))

    def test_in_and_out_rest_on_their_shelf_alone(self):
        program = read("shelf b bag x 1\nhand m\nin b y\nout b x\nout b y")
        lines = [("m", 0, "b", (("x", 1),), False), ("m", 1, "b", (("x", 1), ("y", 1)), True)]
        lines += [("m", 2, "b", (("y", 1),), True), ("m", 3, "b", (), True)]
        self.assertIsNone(wrong_at(program, lines))
        for k in range(4):
            self.assertEqual(wrong_at(program, lines[k:]), 0 if k else None)

    def test_a_when_whose_guard_is_0(self):
        n = [begin("s"), ("main", 1, "s", 10, False), ("main", 2, "n", 15, True), ("main", 3, "n", 15, True)]
        self.assert_only(n, ("main", 4, "n", 15, True))
        self.assert_wrong(4, *n, ("main", 4, "n", 9, True))
        self.assert_wrong(3, *n[:3], ("main", 4, "n", 15, True))

    def test_a_when_whose_guard_is_0_rests_on_guard_and_shelf(self):
        program = read("shelf g last 0\nshelf n last 1\nshelf o last 4\nhand m\nwhen g set n o")
        g, n, o = [("m", 0, word, value, False) for word, value in (("g", 0), ("n", 1), ("o", 4))]
        last = ("m", 1, "n", 1, False)
        self.assertIsNone(wrong_at(program, [g, n, last]))
        self.assertEqual(wrong_at(program, [g, o, last]), 2)
        self.assertEqual(wrong_at(program, [n, o, last]), 2)
        self.assertEqual(wrong_at(program, [g, n, o, ("m", 1, "n", 1, True)]), 3)

    def test_a_when_whose_guard_is_not_0_rests_on_guard_and_term(self):
        program = read("shelf g last 2\nshelf n last 1\nshelf o last 4\nhand m\nwhen g set n o")
        g, n, o = [("m", 0, word, value, False) for word, value in (("g", 2), ("n", 1), ("o", 4))]
        last = ("m", 1, "n", 4, True)
        self.assertIsNone(wrong_at(program, [g, o, last]))
        self.assertEqual(wrong_at(program, [g, n, last]), 2)
        self.assertEqual(wrong_at(program, [n, o, last]), 2)
        self.assertEqual(wrong_at(program, [g, n, o, ("m", 1, "n", 1, False)]), 3)

    def test_a_when_of_a_deed_that_is_no_set(self):
        program = read("shelf g last 2\nshelf n sum 1\nshelf o last 4\nhand m\nwhen g more n o")
        g, n, o = [("m", 0, word, value, False) for word, value in (("g", 2), ("n", 1), ("o", 4))]
        last = ("m", 1, "n", 5, True)
        self.assertIsNone(wrong_at(program, [o, n, g, last]))
        for lines in ([g, n], [g, o], [n, o]):
            self.assertEqual(wrong_at(program, lines + [last]), 2)

    def test_all_shelves_of_a_guard_also_those_that_its_value_does_not_hang_on(self):
        program = read("shelf g last 0\nshelf n last 1\nshelf o last 4\nhand m\nwhen (if g o 1) set n 3\nset n (if 1 2 o)")
        g, n, o = [("m", 0, word, value, False) for word, value in (("g", 0), ("n", 1), ("o", 4))]
        self.assertEqual(wrong_at(program, [g, n, ("m", 1, "n", 3, True)]), 2)
        self.assertIsNone(wrong_at(program, [g, o, ("m", 1, "n", 3, True)]))
        self.assertEqual(wrong_at(program, [g, ("m", 1, "g", 0, False), ("m", 2, "n", 2, True)]), 2)
        self.assertIsNone(wrong_at(program, [o, ("m", 1, "o", 4, False), ("m", 2, "n", 2, True)]))

    def test_a_when_of_a_deed_on_another_shelf_is_as_any_other_row(self):
        program = read("shelf g last 0\nshelf n last 1\nhand m\nwhen g set g 3\nwhen g tell n")
        n = kept("m", 0, 2, "n", 1, False)
        self.assertIsNone(wrong_at(program, n))
        g = [("m", 0, "g", 0, False), ("m", 1, "g", 0, False), ("m", 2, "g", 0, False)]
        self.assertIsNone(wrong_at(program, g))

    def test_a_join(self):
        main = kept("main", 0, 1, "n", 1, False) + [("main", 1, "s", 10, False), ("main", 2, "n", 15, True)]
        main = [begin("s")] + main + kept("main", 3, 6, "n", 15, True)
        kid = [("kid", 0, "n", 1, False)] + kept("kid", 1, 5, "n", 1, True)
        self.assert_only(main + kid, ("main", 7, "n", 1, True))
        lines = main + kid
        for gone in (("main", 6, "n"), ("kid", 5, "n")):
            shorter = [line for line in lines if line[:3] != gone]
            self.assert_wrong(len(shorter), *shorter, ("main", 7, "n", 1, True))
        # The line of the split is a place of its own: main's begin of n is its line of 0 rows.
        shorter = [line for line in lines if line[:3] != ("main", 0, "n")]
        self.assert_wrong(1, *shorter, ("main", 7, "n", 1, True))

    def test_a_join_rests_on_the_split_whatever_the_manner(self):
        program = read("shelf n last 1\nhand m\nset n 4\nsplit k\nset n 2\njoin k\nhand k\nset n 3")
        lines = [("k", 1, "n", 3, True), ("m", 3, "n", 2, True)]
        self.assertEqual(wrong_at(program, lines + [("m", 4, "n", 3, True)]), 2)
        lines.append(("m", 1, "n", 4, True))
        self.assertIsNone(wrong_at(program, lines + [("m", 4, "n", 3, True)]))
        for value, wrote in ((2, True), (4, True), (3, False)):
            self.assertEqual(wrong_at(program, lines + [("m", 4, "n", value, wrote)]), 3)

    def test_a_join_is_written_where_one_of_the_two_is(self):
        for main, kid in ((0, 0), (0, 1), (1, 0), (1, 1)):
            text = "shelf s sum 1\nhand m\nsplit k\n" + ("more s 2" if main else "tell 0") + "\njoin k\nhand k\n"
            program = read(text + ("more s 4" if kid else "tell 0"))
            mine, yours = 1 + 2 * main, 1 + 4 * kid
            lines = kept("m", 0, 1, "s", 1, False) + [("m", 2, "s", mine, bool(main))]
            lines += [("k", 0, "s", 1, False), ("k", 1, "s", yours, bool(kid))]
            wrote = bool(main or kid)
            self.assertIsNone(wrong_at(program, lines + [("m", 3, "s", mine + yours - 1, wrote)]))
            self.assertEqual(wrong_at(program, lines + [("m", 3, "s", mine + yours - 1, not wrote)]), 5)
            self.assertEqual(wrong_at(program, lines + [("m", 3, "s", mine + yours, wrote)]), 5)

    def test_a_join_of_each_manner(self):
        places = Places(PROGRAM)
        for word in BEGINS:
            paper = paper_to(places, ("main", 7, word))
            self.assertIsNone(wrong_at(PROGRAM, paper))
            self.assertEqual(paper[-1], ("main", 7, word, *places.line("main", 7, word)))
        self.assertEqual([places.line("main", 7, word)[0] for word in "nsbrt"], [1, 125, (("x", 1), ("y", 1)), ("p",), 0])

    def test_a_hand_joined_by_another_one_than_its_splitter(self):
        program = read("shelf s sum 1\nhand m\nmore s 1\nsplit k\njoin k\njoin p\nhand k\nmore s 2\nsplit p\nhand p\nmore s 4")
        lines = [("m", 0, "s", 1, False), ("m", 1, "s", 2, True), ("m", 2, "s", 2, True), ("k", 0, "s", 2, False)]
        lines += [("k", 1, "s", 4, True), ("k", 2, "s", 4, True), ("m", 3, "s", 4, True)]
        lines += [("p", 0, "s", 4, False), ("p", 1, "s", 8, True), ("m", 4, "s", 8, True)]
        self.assertIsNone(wrong_at(program, lines))
        self.assertEqual(wrong_at(program, lines[:7] + lines[8:]), 7)

    def test_a_join_whose_row_clashes(self):
        program = read("shelf n sum 0\nshelf r row\nhand m\nsplit k\nlay r 0 a\njoin k\nhand k\nlay r 0 b\nmore n 1")
        r = kept("m", 0, 1, "r", (), False) + [("m", 2, "r", ("a",), True), ("k", 0, "r", (), False)]
        r += kept("k", 1, 2, "r", ("b",), True)
        for value in ((), ("a",), ("b",), ("a", "b"), ("b", "a"), 0, None):
            for wrote in (True, False):
                self.assertEqual(wrong_at(program, r + [("m", 3, "r", value, wrote)]), 6)
        # Another shelf's line tells what would be there if the hand came so far.
        n = kept("m", 0, 2, "n", 0, False) + kept("k", 0, 1, "n", 0, False) + [("k", 2, "n", 1, True)]
        self.assertIsNone(wrong_at(program, n + [("m", 3, "n", 1, True)]))


class Wrong(Papers):
    def test_a_hand_that_there_is_not(self):
        for word in ("nobody", "n", "", "Main", "main "):
            self.assert_wrong(0, (word, 0, "n", 1, False))
            self.assert_wrong(1, begin("s"), (word, 0, "n", 1, False))

    def test_a_shelf_that_there_is_not(self):
        for word in ("nothing", "main", "", "N"):
            self.assert_wrong(0, ("main", 0, word, 1, False))
            self.assert_wrong(1, begin("s"), ("main", 0, word, 10, False))

    def test_numbers_of_rows(self):
        for n in (-1, -2, 9, 10, 10**12, -(10**12)):
            self.assert_wrong(1, begin("n"), ("main", n, "n", 1, False))
        self.assert_wrong(1, begin("n"), ("kid", -1, "n", 1, False))
        self.assert_wrong(1, begin("n"), ("kid", 6, "n", 1, True))
        self.assertIsNone(wrong_at(PROGRAM, paper_to(Places(PROGRAM), ("main", 8, "r"))))
        self.assertIsNone(wrong_at(PROGRAM, paper_to(Places(PROGRAM), ("kid", 5, "t"))))

    def test_a_line_that_rests_on_one_behind_it_or_nowhere(self):
        lines = [begin("n"), ("main", 1, "n", 1, False)]
        self.assert_right(*lines)
        self.assert_wrong(0, *reversed(lines))
        self.assert_wrong(0, lines[1])
        self.assert_wrong(1, begin("n"), ("main", 3, "n", 15, True), *lines)

    def test_the_first_that_is_not_right_is_told(self):
        wrong = ("main", 0, "n", 2, False)
        self.assert_wrong(0, wrong, wrong)
        self.assert_wrong(1, begin("n"), wrong, begin("s"), wrong)
        self.assert_wrong(3, begin("n"), begin("s"), begin("b"), wrong)

    def test_a_line_that_stands_twice(self):
        self.assert_right(begin("n"), begin("n"))
        self.assert_right(begin("n"), ("main", 1, "n", 1, False), begin("n"), ("main", 1, "n", 1, False))

    def test_two_unlike_lines_of_one_place(self):
        self.assert_wrong(1, begin("n"), ("main", 0, "n", 2, False))
        self.assert_wrong(1, begin("n"), ("main", 0, "n", 1, True))
        self.assert_wrong(0, ("main", 0, "n", 2, False), begin("n"))

    def test_a_value_of_another_manner(self):
        self.assert_wrong(0, ("main", 0, "n", (), False))
        self.assert_wrong(0, ("main", 0, "n", ("x",), False))
        self.assert_wrong(0, ("main", 0, "b", 1, False))
        self.assert_wrong(0, ("main", 0, "b", ("x",), False))
        self.assert_wrong(0, ("main", 0, "r", (("p", 1), ("q", 1)), False))
        self.assert_wrong(0, ("main", 0, "r", 2, False))
        self.assert_wrong(0, ("main", 0, "b", (("x", 1), ("y", 1)), False))
        self.assert_wrong(0, ("main", 0, "r", ("p", "q", "q"), False))
        self.assert_wrong(0, ("main", 0, "r", ("p",), False))
        self.assert_wrong(0, ("main", 0, "r", ("q", "p"), False))

    def test_numbers_and_truths_that_are_alike_in_python(self):
        self.assert_wrong(0, ("main", 0, "n", True, False))
        self.assert_wrong(0, ("main", 0, "n", 1, 0))
        self.assert_wrong(0, ("main", False, "n", 1, False))
        self.assert_wrong(1, begin("n"), ("main", True, "n", 1, False))
        self.assert_wrong(0, ("main", 0, "b", (("x", True),), False))
        lines = [begin("s"), ("main", 1, "s", 10, False)]
        self.assert_wrong(2, *lines, ("main", 2, "n", 15, 1))
        program = read("shelf n last 0\nhand m\nset n 1\nset n 0")
        self.assertIsNone(wrong_at(program, [("m", 0, "n", 0, False), ("m", 1, "n", 1, True), ("m", 2, "n", 0, True)]))
        self.assertEqual(wrong_at(program, [("m", 0, "n", False, False)]), 0)
        self.assertEqual(wrong_at(program, [("m", 1, "n", True, True)]), 0)
        self.assertEqual(wrong_at(program, [("m", 1, "n", 1, 1)]), 0)
        self.assertEqual(wrong_at(program, [("m", 2, "n", 0, 1)]), 0)

    def test_nothing_is_changed_and_the_same_is_told(self):
        paper = tuple(paper_to(Places(PROGRAM), ("main", 8, "r")))
        wrong = paper[:5] + paper[6:] + paper[:1]
        before = copy.deepcopy((PROGRAM, paper, wrong))
        for _ in range(2):
            self.assertIsNone(wrong_at(PROGRAM, paper))
            self.assertEqual(wrong_at(PROGRAM, wrong), second_check(PROGRAM, wrong))
            self.assertEqual((PROGRAM, paper, wrong), before)


def paper_to(places, place):
    """A paper whose last line is of this place, made backwards."""
    lines = []

    def go(here):
        if all(line[:3] != here for line in lines):
            for rested in places.rests(*here):
                go(rested)
            lines.append((*here, *places.line(*here)))

    go(place)
    return lines


def second_check(program, paper):
    """The number of the first line that isn't right, by what is asked for backwards; None where all are."""
    places = Places(program)
    ahead = []
    for at, (H, n, S, value, wrote) in enumerate(paper):
        if H not in places.rows or S not in places.shelves or not 0 <= n <= len(places.rows[H]):
            return at
        rests = places.rests(H, n, S)
        if rests is None or any(place not in ahead for place in rests):
            return at
        if places.line(H, n, S) != (value, wrote):
            return at
        ahead.append((H, n, S))
    return None


class ManyPapers(unittest.TestCase):
    def woven_paper(self, chance, program):
        """What a run by chance shows, line by line."""
        words = [word for word, _ in program[1]]
        run = Run(program)
        seen = {}
        for hand in words[:1] + chance.choices(words, k=200):
            run.step(hand)
            for word in words:
                if run.house(word) is not None and run.rows_done(word) == 0:
                    self.show_lines(program, run, word, seen)
            if run.house(hand) is not None:
                self.show_lines(program, run, hand, seen)
        return list(seen)

    def show_lines(self, program, run, word, seen):
        for (shelf, _, _), value in zip(program[0], run.house(word)):
            seen[(word, run.rows_done(word), shelf, value, shelf in run.wrote(word))] = True

    def test_what_runs_show_is_let_by(self):
        maker = LetBy(61)
        lines = 0
        for _ in range(120):
            program = maker.program(hands=6, rows=24)
            paper = self.begun(program, self.woven_paper(maker.chance, program))
            self.assertIsNone(wrong_at(program, paper), show(program))
            lines += len(paper)
        self.assertGreater(lines, 5000)

    def begun(self, program, paper):
        """The paper with the begins of the first hand, ahead of which it did a step."""
        first = program[1][0][0]
        return [(first, 0, word, begin, False) for word, _, begin in program[0]] + paper

    def changed(self, chance, paper):
        paper = list(paper)
        for _ in range(chance.randint(1, 2)):
            at, other = chance.randrange(len(paper)), chance.randrange(len(paper))
            line = list(paper[at])
            kind = chance.randrange(6)
            if kind == 0:
                paper.pop(at)
            elif kind == 1:
                paper[at], paper[other] = paper[other], paper[at]
            elif kind == 2:
                paper.insert(at, paper[other])
            elif kind == 3:
                part = chance.randrange(5)
                line[part] = paper[other][part]
            elif kind == 4:
                line[1] += chance.choice((-1, 1, -30, 30))
            elif isinstance(line[3], int):
                line[3] = (line[3] + chance.choice((1, -1))) % WIDE
            if kind > 2:
                paper[at] = tuple(line)
            if not paper:
                break
        return paper

    def test_changed_papers_are_judged_alike(self):
        maker = LetBy(62)
        right = wrong = 0
        for _ in range(150):
            program = maker.program(hands=5, rows=16)
            places = Places(program)
            words = [(word, len(rows)) for word, rows in program[1]]
            if not program[0]:
                continue
            for _ in range(6):
                word, many = maker.chance.choice(words)
                place = (word, maker.chance.randint(0, many), maker.chance.choice(program[0])[0])
                if places.line(*place) is None:
                    continue
                paper = paper_to(places, place)
                self.assertIsNone(wrong_at(program, paper))
                paper = self.changed(maker.chance, paper)
                at = second_check(program, paper)
                self.assertEqual(wrong_at(program, paper), at, (show(program), paper))
                right += at is None
                wrong += at is not None
        self.assertGreater(right, 40)
        self.assertGreater(wrong, 200)


if __name__ == "__main__":
    unittest.main()
