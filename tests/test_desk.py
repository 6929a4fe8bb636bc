import unittest

from copiedhouse.calm import crossings
from copiedhouse.desk import answered
from copiedhouse.errors import (
    BadText, HouseError, Left, NoAsk, NoHand, NoName, NoSplit, NotHeld, TooMany, Twice, WrongShelf,
)
from copiedhouse.paperwork import gone_over
from copiedhouse.reader import read
from copiedhouse.runs import end_of, run_to_end
from copiedhouse.stories import story
from copiedhouse.writer import show
from tests.samples import FIVE, WHOLE_TEXT, LetBy, Places

FIVE_TEXT = show(FIVE)

EMPTIED = """\
shelf b bag x 1
shelf r row a
shelf e bag
shelf f row
shelf m bag x -2 y 3
shelf q row a b a
shelf n last 4294967295
hand main
out b x
drop r 0
split kid
tell 1
join kid
tell n
tell 0
hand kid
out m x"""

BROKEN = """\
shelf p row a
shelf n sum 3
hand main
tell 5
split kid
lay p 0 x
join kid
split pal
join pal
tell 6
hand kid
more n 1
tell n
lay p 0 y
hand pal
tell 7"""

# Each kid tells what was before the others: no order of all is a story.
FOUR_KIDS = "shelf n last 0\nhand m\n"
FOUR_KIDS += "".join(f"split {word}\n" for word in "abcd") + "".join(f"join {word}\n" for word in "abcd")
FOUR_KIDS += "\n".join(f"hand {word}\ntell n\nset n {k + 1}" for k, word in enumerate("abcd"))

# There are just 200 orders, none of which is a story.
NONE_OF_200 = """\
shelf n last 0
hand m
split d
set n 1
join d
split c
join c
join b
join a
hand d
tell n
set n 2
hand c
split b
split a
hand b
hand a"""

# The order behind 199 others is the first one that is a story.
STORY_200 = """\
shelf n last 0
hand m
split a
split b
tell n
set n 2
split c
tell n
split d
set n 3
join d
join b
tell n
join c
tell n
set n 1
join a
hand a
set n 1
hand b
hand c
set n 3
hand d
tell n"""

# The order behind 200 others is.
STORY_201 = """\
shelf n last 0
hand m
split a
split b
split c
split d
set n 3
join d
join a
tell n
join c
join b
set n 1
hand a
set n 1
hand b
hand c
tell n
hand d"""


class End(unittest.TestCase):
    def test_a_house(self):
        told = "house\nn 1\ns 125\nb x 1 y 1\nr z p\nt 0"
        self.assertEqual(answered(FIVE_TEXT, "end"), told)

    def test_empty_bags_and_rows_and_numbers_below_0(self):
        told = "house\nb\nr\ne\nf\nm x -3 y 3\nq a b a\nn 4294967295"
        self.assertEqual(answered(EMPTIED, "end"), told)

    def test_a_program_without_shelves(self):
        self.assertEqual(answered("hand m", "end"), "house")
        self.assertEqual(answered("hand m\ntell 1", "end"), "house")

    def test_a_broken_program(self):
        self.assertEqual(answered(BROKEN, "end"), "broken main 3 p")
        text = "shelf p row\nhand m\nsplit k\njoin k\nhand k\nsplit z\nlay p 0 x\njoin z\nhand z\nlay p 0 y"
        self.assertEqual(answered(text, "end"), "broken k 2 p")


class Tells(unittest.TestCase):
    def test_numbers_and_nothing(self):
        self.assertEqual(answered(EMPTIED, "tells main"), "1 4294967295 0")
        self.assertEqual(answered(EMPTIED, "tells kid"), "")
        self.assertEqual(answered(FIVE_TEXT, "tells main"), "15")

    def test_a_broken_program(self):
        self.assertEqual(answered(BROKEN, "tells main"), "5")
        self.assertEqual(answered(BROKEN, "tells kid"), "4")
        # Pal is never begun.
        self.assertEqual(answered(BROKEN, "tells pal"), "")


class From(unittest.TestCase):
    def test_a_paper_that_goes_over_rows(self):
        self.assertEqual(answered(FIVE_TEXT, "from main 3 s"), "25\nmain:1 main:2")
        self.assertEqual(answered(FIVE_TEXT, "from main 2 n"), "15\nmain:1")
        self.assertEqual(answered(FIVE_TEXT, "from main 7 b"), "x 1 y 1\nmain:6 kid:1")
        self.assertEqual(answered(FIVE_TEXT, "from kid 5 r"), "p\nkid:2")

    def test_a_paper_that_goes_over_nothing(self):
        self.assertEqual(answered(FIVE_TEXT, "from main 0 n"), "1\n")
        self.assertEqual(answered(FIVE_TEXT, "from kid 0 r"), "p q\n")
        self.assertEqual(answered(FIVE_TEXT, "from main 1 b"), "x 1\n")

    def test_values_that_are_the_text_without_signs(self):
        self.assertEqual(answered(EMPTIED, "from main 0 e"), "\n")
        self.assertEqual(answered(EMPTIED, "from main 2 f"), "\n")
        self.assertEqual(answered(EMPTIED, "from main 1 b"), "\nmain:0")
        self.assertEqual(answered(EMPTIED, "from main 2 r"), "\nmain:1")
        self.assertEqual(answered(EMPTIED, "from main 7 r"), "\nmain:1 main:4")
        self.assertEqual(answered(EMPTIED, "from kid 1 m"), "x -3 y 3\nkid:0")

    def test_where_there_is_no_paper(self):
        self.assertEqual(answered(BROKEN, "from main 4 p"), "none")
        self.assertEqual(answered(BROKEN, "from main 7 n"), "none")
        self.assertEqual(answered(BROKEN, "from pal 0 n"), "none")
        self.assertEqual(answered(BROKEN, "from pal 1 n"), "none")
        self.assertEqual(answered(BROKEN, "from main 3 p"), "x a\nmain:2")
        self.assertEqual(answered(BROKEN, "from kid 3 p"), "y a\nkid:2")

    def test_names_that_are_like_others(self):
        text = "shelf end last 1\nshelf from row\nhand from\nset end 2\nlay from 0 from"
        self.assertEqual(answered(text, "from from 2 end"), "2\nfrom:0")
        self.assertEqual(answered(text, "from from 2 from"), "from\nfrom:1")
        self.assertEqual(answered(text, "tells from"), "")

    def test_rows_of_two_figures(self):
        text = "shelf n sum 0\nhand m" + "\nmore n 1" * 12
        self.assertEqual(answered(text, "from m 12 n"), "12\n" + " ".join(f"m:{k}" for k in range(12)))
        self.assertEqual(answered(text, "from m 10 n"), "10\n" + " ".join(f"m:{k}" for k in range(10)))


class Story(unittest.TestCase):
    def test_a_story(self):
        self.assertEqual(answered("hand m", "story"), "story 0")
        text = "shelf n last 0\nhand m\nsplit k\nset n 1\njoin k\nhand k\ntell n"
        self.assertEqual(answered(text, "story"), "story 0 3 1 2")
        self.assertEqual(answered(text.replace("tell n", "tell 2"), "story"), "story 0 1 3 2")

    def test_none(self):
        text = "shelf n last 0\nhand m\nsplit k\nset n 1\njoin k\nhand k\ntell n\nset n 2"
        self.assertEqual(answered(text, "story"), "none 2")

    def test_a_broken_program(self):
        self.assertEqual(answered(BROKEN, "story"), "broken main 3 p")

    def test_more_orders_than_200(self):
        with self.assertRaises(TooMany) as caught:
            answered(FOUR_KIDS, "story")
        self.assertEqual(caught.exception.most, 200)
        with self.assertRaises(TooMany):
            story(read(FOUR_KIDS), 200)

    def test_just_200_are_looked_at(self):
        self.assertEqual(answered(NONE_OF_200, "story"), "none 200")
        told = story(read(STORY_200), 200)
        self.assertEqual(answered(STORY_200, "story"), " ".join(["story", *map(str, told[1])]))
        self.assertRaises(TooMany, story, read(STORY_200), 199)
        self.assertRaises(TooMany, answered, STORY_201, "story")
        self.assertEqual(story(read(STORY_201), 201)[0], "story")


class Crossings(unittest.TestCase):
    def test_none(self):
        self.assertEqual(answered("hand m", "crossings"), "")
        self.assertEqual(answered(EMPTIED, "crossings"), "")

    def test_in_order(self):
        text = "shelf n last 0\nshelf g sum 0\nhand m\nsplit a\nsplit b\nset n 3\njoin a\njoin b\n"
        text += "hand b\nset n 1\nmore g g\nhand a\nset n 2\nmore g 2"
        self.assertEqual(answered(text, "crossings"), "2 5 n\n2 6 n\n5 6 n\n5 6 g")

    def test_a_broken_program(self):
        self.assertEqual(answered(BROKEN, "crossings"), "1 5 p")


class Refused(unittest.TestCase):
    def refused(self, error, text, question, **fields):
        with self.assertRaises(error) as caught:
            answered(text, question)
        self.assertIs(type(caught.exception), error)
        self.assertIsInstance(caught.exception, HouseError)
        for name, value in fields.items():
            self.assertEqual(getattr(caught.exception, name), value)

    def test_no_questions(self):
        for question in (
            "", " ", "  ", "\n", "END", "End", "ends", "en", "e", "house", "broken", "calm", "hand m", "what",
            "end ", " end", "end end", "end main", "end  ", "end\n", "\nend", "\tend", "end\t", "end.",
            "tells", "tells ", " tells main", "tells main ", "tells  main", "tells main main", "tells main kid",
            "tells pal", "tells n", "tells MAIN", "tells Main", "Tells main", "tells main\n", "tells\nmain",
            "tells\tmain", "tell main", "tells mai", "tells mainn", "tells 0",
            "from", "from main", "from main 0", "from main 0 n ", " from main 0 n", "from  main 0 n", "from main  0 n",
            "from main 0  n", "from main 0 n n", "from main n", "from main n 0", "from 0 main n", "from n 0 main",
            "from pal 0 n", "from main 0 z", "from main 0 main", "from n 0 n", "FROM main 0 n", "From main 0 n",
            "from Main 0 n", "from main 0 N", "from main 0 n\n", "from main\t0 n", "from main 0",
            "from main 00 n", "from main 01 n", "from main 001 n", "from main +1 n", "from main -1 n", "from main -0 n",
            "from main 9 n", "from main 10 n", "from main 99 n", "from kid 6 n", "from main 1000000000 n",
            "from main 0000000000 n", "from main 10000000000 n", "from main 1_0 n", "from main 1.0 n", "from main one n",
            "from main \u0661 n", "from main \u00b2 n", "from main 1\n n", "from main  n", "from main " + "0" * 5000 + " n",
            "from main " + "9" * 5000 + " n",
            "story ", " story", "story story", "story 200", "Story", "stories", "storys", "STORY",
            "crossings ", " crossings", "crossings n", "crossing", "Crossings", "crossings\n", "crossings 0 1",
        ):
            self.refused(NoAsk, FIVE_TEXT, question)

    def test_questions_at_the_edges(self):
        for question in ("end", "tells main", "tells kid", "from main 0 n", "from main 8 n", "from kid 5 t", "crossings"):
            self.assertIs(type(answered(FIVE_TEXT, question)), str)

    def test_a_hand_without_rows(self):
        text = "shelf n last 4\nhand m"
        self.assertEqual(answered(text, "from m 0 n"), "4\n")
        self.refused(NoAsk, text, "from m 1 n")

    def test_more_than_the_rows_of_this_hand_though_another_has_them(self):
        self.refused(NoAsk, FIVE_TEXT, "from kid 6 n")
        self.refused(NoAsk, FIVE_TEXT, "from kid 8 n")
        # A hand that did fewer rows is another thing.
        self.assertEqual(answered(BROKEN, "from main 7 p"), "none")
        self.refused(NoAsk, BROKEN, "from main 8 p")

    def test_no_text(self):
        self.refused(BadText, "hand m\ntell", "end", at=1)
        self.refused(BadText, "hand m\n", "end", at=1)
        self.refused(BadText, "shelf n last 1\nshelf m last 01\nhand m", "end", at=1)

    def test_programs_that_are_not_let_by(self):
        self.refused(NoHand, "", "end")
        self.refused(NoHand, "shelf n last 1", "end")
        self.refused(Twice, "shelf n last 1\nshelf n last 2\nhand m", "end", word="n")
        self.refused(Twice, "hand m\nhand m", "end", word="m")
        self.refused(NoName, "hand m\ntell n", "end", word="n")
        self.refused(WrongShelf, "shelf n last 1\nhand m\nmore n 1", "end", word="n")
        self.refused(NoSplit, "hand m\nhand k", "end", word="k")
        self.refused(NotHeld, "hand m\nsplit k\njoin k\njoin k\nhand k", "end", word="k")
        self.refused(Left, "hand m\nsplit k\nhand k", "end", word="k")

    def test_where_two_are_due_the_first(self):
        # The text ahead of all, as in its own order.
        self.refused(BadText, "hand m\ntell n\ntell", "what", at=2)
        self.refused(BadText, "hand m\nhand m\n ", "end", at=2)
        self.refused(BadText, FOUR_KIDS + "\n", "story ")
        for question in ("", "what", "end ", "tells k", "from m 1 n"):
            self.refused(NoHand, "", question)
            self.refused(Twice, "hand m\nhand m", question)
            self.refused(NoName, "hand m\ntell n", question)
            self.refused(WrongShelf, "shelf n last 1\nhand m\nmore n 1", question)
            self.refused(NoSplit, "hand m\nhand k", question)
            self.refused(NotHeld, "hand m\njoin m", question)
            self.refused(Left, "hand m\nsplit k\nhand k", question)
        # Then the question, ahead of the orders.
        for question in ("story ", " story", "story 1"):
            self.refused(NoAsk, FOUR_KIDS, question)
        self.refused(Left, FOUR_KIDS.replace("join a\n", ""), "story", word="a")
        self.refused(TooMany, FOUR_KIDS, "story", most=200)


class ManyPrograms(unittest.TestCase):
    def shown(self, manner, value):
        if manner == ("bag",):
            return " ".join(f"{word} {many}" for word, many in value)
        return " ".join(value) if manner == ("row",) else str(value)

    def test_each_question_of_many_programs(self):
        maker = LetBy(86)
        met = {"house": 0, "broken": 0, "none": 0, "story": 0, "crossings": 0}
        for _ in range(120):
            program = maker.program(hands=5, rows=24)
            text = show(program)
            end = end_of(program)
            met[end[0]] += 1
            broken = " ".join(map(str, end)) if end[0] == "broken" else None
            if broken is None:
                rows = [(S + " " + self.shown(manner, value)).rstrip() for (S, manner, _), value in zip(program[0], end[1])]
                self.assertEqual(answered(text, "end"), "\n".join(["house"] + rows))
            else:
                self.assertEqual(answered(text, "end"), broken)
            run = run_to_end(program)
            for word, _ in program[1]:
                self.assertEqual(answered(text, "tells " + word), " ".join(str(k) for k in run.told(word)))
            told = crossings(program)
            self.assertEqual(answered(text, "crossings"), "\n".join(f"{one} {other} {S}" for one, other, S in told))
            met["crossings"] += len(told)
            self.look_at_story(program, text, broken, met)
            self.look_at_places(maker, program, text, met)
        self.assertGreater(min(met.values()), 10, met)

    def look_at_story(self, program, text, broken, met):
        if broken is not None:
            self.assertEqual(answered(text, "story"), broken)
            return
        try:
            told = story(program, 200)
        except TooMany:
            self.assertRaises(TooMany, answered, text, "story")
            return
        met["story"] += 1
        parts = told[1] if told[0] == "story" else told[1:]
        self.assertEqual(answered(text, "story"), " ".join([told[0], *map(str, parts)]))

    def look_at_places(self, maker, program, text, met):
        places = Places(program)
        run = run_to_end(program)
        for word, rows in program[1]:
            for n, (S, manner, _) in zip((maker.chance.randint(0, len(rows)), len(rows)), program[0]):
                told = answered(text, f"from {word} {n} {S}")
                if run.house(word) is None or run.rows_done(word) < n:
                    self.assertEqual(told, "none")
                    met["none"] += 1
                    continue
                lines, waiting = set(), [(word, n, S)]
                while waiting:
                    place = waiting.pop()
                    lines.add(place)
                    waiting += places.rests(*place)
                over = gone_over(program, tuple((*place, 0, False) for place in lines))
                due = self.shown(manner, places.line(word, n, S)[0]) + "\n" + " ".join(f"{H}:{row}" for H, row in over)
                self.assertEqual(told, due, (text, word, n, S))

    def test_the_same_is_told(self):
        for question in ("end", "tells main", "from main 7 queue", "crossings"):
            self.assertEqual(answered(WHOLE_TEXT, question), answered(WHOLE_TEXT, question))
            self.assertIs(type(answered(WHOLE_TEXT, question)), str)


if __name__ == "__main__":
    unittest.main()
