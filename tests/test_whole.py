"""The promise over the whole program: runs, keepers, papers, stories, calm programs and exchanged joins, put together."""

import unittest

from copiedhouse.calm import is_calm
from copiedhouse.errors import NoTurn
from copiedhouse.keeper import Keeper
from copiedhouse.looker import look
from copiedhouse.papers import check_paper
from copiedhouse.paperwork import paper_of, spared
from copiedhouse.reader import read
from copiedhouse.runs import Run, end_of, run_to_end
from copiedhouse.stories import is_story, story
from copiedhouse.turns import exchanged, hinders
from copiedhouse.writer import show
from tests.samples import LetBy


class Whole(unittest.TestCase):
    def programs(self, seed, many, rows):
        maker = LetBy(seed)
        for _ in range(many):
            program = maker.program(hands=5, rows=rows)
            self.assertIs(look(program), True)
            self.assertEqual(read(show(program)), program)
            yield maker, program

    def told(self, program):
        run = run_to_end(program)
        return {word: run.told(word) for word, _ in program[1]}

    def woven_to_end(self, maker, program, going):
        words = [word for word, _ in program[1]]
        while going.woven(maker.chance.choices(words, k=8)) or going.woven(words):
            pass
        return going

    def test_whatever_the_weaving_runs_and_keepers_come_to_the_same_end(self):
        for maker, program in self.programs(91, 120, 24):
            first = program[1][0][0]
            end = end_of(program)
            run = self.woven_to_end(maker, program, Run(program))
            keeper = self.woven_to_end(maker, program, Keeper(program))
            self.assertEqual(keeper.end(), end, show(program))
            self.assertEqual(("broken", *run.broken(first)) if run.broken(first) else ("house", run.house(first)), end)
            self.assertEqual({word: run.told(word) for word, _ in program[1]}, self.told(program))
            self.assertEqual(keeper.told(first), run.told(first))

    def test_each_value_at_the_end_has_a_paper_that_holds_for_the_spared_program_too(self):
        for _, program in self.programs(92, 60, 20):
            run = run_to_end(program)
            for word, _ in program[1]:
                for place, (S, _, _) in enumerate(program[0]):
                    paper = paper_of(program, word, run.rows_done(word), S)
                    self.assertEqual(paper is None, run.house(word) is None)
                    if paper is None:
                        continue
                    self.assertEqual(paper[-1][3:], (run.house(word)[place], S in run.wrote(word)))
                    less = spared(program, paper)
                    self.assertTrue(look(less) and check_paper(program, paper) and check_paper(less, paper))
                    # Where the hand comes so far, the value is there.
                    other = run_to_end(less)
                    if other.rows_done(word) >= run.rows_done(word):
                        self.assertEqual(paper_of(less, word, run.rows_done(word), S), paper)

    def test_calm_programs_and_exchanged_joins(self):
        calm = turned = 0
        for _, program in self.programs(93, 250, 12):
            end = end_of(program)
            if is_calm(program):
                calm += 1
                self.assertEqual(end[0], "house")
                kind, order = story(program, 1)
                self.assertEqual(kind, "story")
                self.assertIs(is_story(program, order), True)
            for word, rows in program[1]:
                for k in range(len(rows)):
                    try:
                        other = exchanged(program, word, k)
                    except NoTurn:
                        continue
                    if hinders(program, word, k) is None and end[0] == "house":
                        turned += 1
                        self.assertEqual(end_of(other), end)
                        self.assertEqual(self.told(other), self.told(program))
        self.assertGreater(calm, 20)
        self.assertGreater(turned, 40)


if __name__ == "__main__":
    unittest.main()
