import copy
import unittest

from copiedhouse.errors import HouseError, TooMany
from copiedhouse.reader import read
from copiedhouse.runs import end_of, run_to_end
from copiedhouse.stories import done_in, is_story, story
from copiedhouse.stretches import is_order
from copiedhouse.writer import show
from tests.samples import WHOLE, LetBy, Places, only_plain, second_made, second_orders, second_stretches, second_value


def split_join(shelves, main, kid, between="", behind=""):
    """A program of two hands: main 0 to 2, kid 3."""
    rows = [shelves, "hand main", between, "split kid", main, "join kid", behind, "hand kid", kid]
    return read("\n".join(row for row in rows if row))


def three_kids(rows):
    """Main 0 to 6, then one stretch for each kid; as many orders as its stretches may be put among one another."""
    text = "shelf n last 0\nhand m\nsplit a\nsplit b\nsplit c\njoin a\njoin b\njoin c"
    return read(text + "".join(f"\nhand {word}\n{row}" for word, row in zip("abc", rows)))


def second_done(program, order):
    cut = second_stretches(program)
    house = {word: begin for word, _, begin in program[0]}
    manners = {word: manner for word, manner, _ in program[0]}
    told = {word: [] for word, _ in program[1]}
    for number in order:
        hand, first, last = cut[number]
        for row in dict(program[1])[hand][first:last]:
            guard = second_value(row[1], house.get) if row[0] == "when" else 1
            deed = row[2] if row[0] == "when" else row
            if not guard:
                continue
            if deed[0] == "tell":
                told[hand].append(second_value(deed[1], house.get))
            else:
                value = 0 if deed[0] in ("in", "out") else second_value(deed[2], house.get)
                house[deed[1]] = second_made(manners[deed[1]], deed, house[deed[1]], value)
    return (tuple(house.values()), told)


class DoneIn(unittest.TestCase):
    def test_on_one_house_without_copying(self):
        program = split_join("shelf n last 1", "set n 2", "tell n\nset n (+ n 5)", behind="tell n")
        self.assertEqual(done_in(program, (0, 1, 3, 2)), ((7,), {"main": [7], "kid": [2]}))
        self.assertEqual(done_in(program, (0, 3, 1, 2)), ((2,), {"main": [2], "kid": [1]}))
        self.assertEqual(end_of(program), ("house", (6,)))

    def test_splits_and_joins_do_nothing(self):
        program = read("shelf s sum 5\nshelf r row a\nshelf b bag a 1\nhand m\nsplit k\njoin k\nhand k")
        self.assertEqual(done_in(program, (0, 3, 1, 2)), ((5, ("a",), (("a", 1),)), {"m": [], "k": []}))

    def test_each_hand_has_what_it_told_perhaps_nothing(self):
        program = read("hand m\ntell 1\nsplit k\ntell 2\nsplit p\njoin k\ntell 3\njoin p\nhand k\nhand p\nwhen 0 tell 4\nwhen 1 tell 5")
        # m: 0 to 4, k: 5, p: 6.
        told = done_in(program, (0, 1, 2, 5, 3, 6, 4))
        self.assertEqual(told, ((), {"m": [1, 2, 3], "k": [], "p": [5]}))
        self.assertEqual(list(told[1]), ["m", "k", "p"])

    def test_all_manners_of_deeds(self):
        text = "shelf s sum 1\nshelf b bag\nshelf r row a b\nshelf t told 3 0 mine"
        program = split_join(text, "more s 4\nin b x\nlay r 1 c", "more s s\nout b x\ndrop r 1\nset t 5\nwhen (long r) set t 4")
        self.assertEqual(done_in(program, (0, 1, 3, 2))[0], (10, (), ("a", "b"), 1))
        self.assertEqual(done_in(program, (0, 3, 1, 2))[0], (6, (), ("a", "c"), 1))

    def test_many_programs(self):
        maker = LetBy(78)
        for _ in range(25):
            program = maker.program(hands=3, rows=14)
            for order in second_orders(program)[:20]:
                told = done_in(program, order)
                self.assertEqual(told, second_done(program, order), show(program))
                self.assertTrue(only_plain(told[0]))
                self.assertIs(type(told), tuple)
                self.assertIs(type(told[1]), dict)
                self.assertTrue(all(type(numbers) is list for numbers in told[1].values()))

    def test_what_is_told_is_the_askers_own(self):
        program = split_join("shelf n last 1", "tell 1", "tell 2")
        told = done_in(program, (0, 1, 3, 2))
        told[1]["kid"].append(5)
        told[1].pop("main")
        self.assertEqual(done_in(program, (0, 1, 3, 2)), ((1,), {"main": [1], "kid": [2]}))
        self.assertIsNot(done_in(program, (0, 1, 3, 2))[1], done_in(program, (0, 1, 3, 2))[1])


class IsStory(unittest.TestCase):
    def test_both_the_house_and_what_was_told(self):
        program = split_join("shelf n last 1", "set n 2", "tell n\nset n 3")
        # Only where kid goes first the same is told, only where it goes last the house is the same.
        self.assertIs(is_story(program, (0, 1, 3, 2)), False)
        self.assertIs(is_story(program, (0, 3, 1, 2)), False)
        program = split_join("shelf n last 1", "set n 2", "set n 3")
        self.assertIs(is_story(program, (0, 1, 3, 2)), True)
        self.assertIs(is_story(program, (0, 3, 1, 2)), False)
        program = split_join("shelf n last 1", "set n 2", "tell n")
        self.assertIs(is_story(program, (0, 1, 3, 2)), False)
        self.assertIs(is_story(program, (0, 3, 1, 2)), True)

    def test_what_the_first_hand_told_counts_too(self):
        program = split_join("shelf n last 1", "tell n", "set n 2")
        self.assertIs(is_story(program, (0, 1, 3, 2)), True)
        self.assertIs(is_story(program, (0, 3, 1, 2)), False)

    def test_of_a_broken_program_no_order_is_one(self):
        # Done in this order, the row ends as it is where main breaks.
        program = split_join("shelf r row a", "lay r 0 x", "lay r 0 y\nwhen (= (long r) 3) drop r 0")
        self.assertEqual(end_of(program), ("broken", "main", 2, "r"))
        self.assertEqual(done_in(program, (0, 1, 3, 2))[0], run_to_end(program).house("main"))
        self.assertIs(is_story(program, (0, 1, 3, 2)), False)

    def test_tuples_that_are_no_order_are_no_story(self):
        program = split_join("shelf n last 1", "", "")
        for order in ((0, 1, 3, 2), (0, 3, 1, 2)):
            self.assertIs(is_story(program, order), True)
        for order in ((), (0, 1, 2, 3), (3, 0, 1, 2), (0, 1, 3), (0, 1, 3, 2, 2)):
            self.assertIs(is_story(program, order), False)

    def test_many_programs(self):
        maker = LetBy(79)
        met = {True: 0, False: 0}
        for _ in range(120):
            program = maker.program(hands=3, rows=12)
            run = run_to_end(program)
            if run.broken(program[1][0][0]) is not None:
                continue
            places = Places(program)
            due = places.standing(program[1][0][0], len(program[1][0][1]))[0]
            told = {word: places.standing(word, len(rows))[1] for word, rows in program[1]}
            for order in second_orders(program)[:12]:
                is_one = second_done(program, order) == (due, told)
                self.assertIs(is_story(program, order), is_one, show(program))
                met[is_one] += 1
        self.assertGreater(min(met.values()), 50)


class Stories(unittest.TestCase):
    def assert_too_many(self, program, most):
        with self.assertRaises(TooMany) as caught:
            story(program, most)
        self.assertEqual(caught.exception.most, most)
        self.assertIsInstance(caught.exception, HouseError)

    def test_one_order(self):
        program = read("shelf n last 1\nhand m\ntell n\nset n 2")
        self.assertEqual(story(program, 1), ("story", (0,)))
        # Kid alone does rows between the split and the join, but two stretches may still change places.
        self.assertEqual(story(split_join("shelf n last 1", "", "set n 2"), 5), ("story", (0, 1, 3, 2)))

    def test_the_first_order_is_a_story(self):
        program = split_join("shelf n last 1", "set n 2", "set n 3")
        for most in (1, 2, 3, 200):
            self.assertEqual(story(program, most), ("story", (0, 1, 3, 2)))

    def test_a_later_order_is_one(self):
        program = split_join("shelf n last 1", "set n 2", "tell n")
        self.assertEqual(story(program, 2), ("story", (0, 3, 1, 2)))
        self.assertEqual(story(program, 200), ("story", (0, 3, 1, 2)))
        self.assert_too_many(program, 1)

    def test_none_is_one(self):
        program = split_join("shelf n last 1", "set n 2", "tell n\nset n 3")
        # Just as many orders as most, fewer, and one more.
        self.assertEqual(story(program, 2), ("none", 2))
        self.assertEqual(story(program, 3), ("none", 2))
        self.assertEqual(story(program, 200), ("none", 2))
        self.assert_too_many(program, 1)

    def test_more_orders(self):
        # Each kid asks for what was before the others, and the last one joined is what comes of it.
        program = three_kids(("tell n\nset n 1", "tell n\nset n 2", "tell n\nset n 3"))
        many = len(second_orders(program))
        self.assertEqual(story(program, many), ("none", many))
        self.assertEqual(story(program, many + 1), ("none", many))
        for most in (1, 2, 7, many - 1):
            self.assert_too_many(program, most)

    def test_an_order_behind_many(self):
        program = three_kids(("tell n\nset n 3", "tell n\nset n 2", "tell n\nset n 1"))
        orders = second_orders(program)
        self.assertEqual(story(program, 200), ("none", len(orders)))
        # Orders rise, so the place of the one that is told is the number of those that were looked at before.
        program = three_kids(("set n (+ n 5)", "tell n", "tell n"))
        told = story(program, 200)
        place = orders.index(told[1])
        self.assertTrue(is_story(program, told[1]))
        self.assertFalse(any(is_story(program, order) for order in orders[:place]))
        self.assertEqual(story(program, place + 1), told)
        self.assertGreater(place, 0)
        self.assert_too_many(program, place)

    def test_many_programs(self):
        maker = LetBy(80)
        met = {"story": 0, "none": 0, "later": 0, "many": 0}
        for _ in range(150):
            program = maker.program(hands=3, rows=12)
            if end_of(program)[0] == "broken":
                continue
            orders = second_orders(program)
            stories = [order for order in orders if is_story(program, order)]
            due = ("story", stories[0]) if stories else ("none", len(orders))
            looked_at = orders.index(stories[0]) + 1 if stories else len(orders)
            self.assertEqual(story(program, 200), due, show(program))
            self.assertEqual(story(program, looked_at), due)
            if looked_at > 1:
                self.assert_too_many(program, looked_at - 1)
            met[due[0]] += 1
            met["later"] += bool(stories) and looked_at > 1
            met["many"] += len(orders) > 5
        self.assertGreater(min(met.values()), 10, met)

    def test_kinds(self):
        program = split_join("shelf n last 1", "set n 2", "tell n")
        for told in (story(program, 200), story(split_join("shelf n last 1", "set n 2", "tell n\nset n 3"), 200)):
            self.assertIs(type(told), tuple)
            self.assertTrue(only_plain(told))
        self.assertTrue(is_order(program, story(program, 200)[1]))

    def test_a_program_of_all_sorts(self):
        self.assert_too_many(WHOLE, 200)

    def test_bounds_are_no_refusal(self):
        program = three_kids(("tell n\nset n 1", "tell n\nset n 2", "tell n\nset n 3"))
        self.assertEqual(story(program, 250), ("none", len(second_orders(program))))
        # Nine kids: more orders than can be walked.
        words = [word + "k" for word in "abcdefghi"]
        lines = ["shelf n last 0", "hand m"] + ["split " + word for word in words] + ["join " + word for word in words]
        for word in words:
            lines.extend(["hand " + word, "tell n", "set n 1"])
        self.assert_too_many(read("\n".join(lines)), 210)


class ToldAndHandedIn(unittest.TestCase):
    def test_nothing_is_changed_and_the_same_is_told(self):
        for program in (split_join("shelf n last 1", "", ""), split_join("shelf n last 1", "set n 2", "tell n")):
            before = copy.deepcopy(program)
            told = story(program, 200)
            self.assertEqual(story(program, 200), told)
            self.assertEqual(is_story(program, told[1]), is_story(program, told[1]))
            self.assertEqual(done_in(program, told[1]), done_in(program, told[1]))
            self.assertEqual(program, before)


if __name__ == "__main__":
    unittest.main()
