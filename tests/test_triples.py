import copy
import itertools
import random
import unittest

from copiedhouse.bags import bags_added, bags_less
from copiedhouse.termreader import read_term
from copiedhouse.told import value_of_three
from copiedhouse.triples import joined, row_change, rows_by_three
from tests.samples import WIDE, only_plain

LAST = WIDE - 1
SHORT_ROWS = tuple(row for long in range(4) for row in itertools.product("xy", repeat=long))


def row(text):
    return tuple(text)


class RowChange(unittest.TestCase):
    def test_words_put_in(self):
        self.assertEqual(row_change(row("abc"), row("xabc")), (0, 0, row("x")))
        self.assertEqual(row_change(row("abc"), row("axybc")), (1, 1, row("xy")))
        self.assertEqual(row_change(row("abc"), row("abcx")), (3, 3, row("x")))
        self.assertEqual(row_change((), row("ab")), (0, 0, row("ab")))

    def test_words_that_fell_out(self):
        self.assertEqual(row_change(row("abc"), row("bc")), (0, 1, ()))
        self.assertEqual(row_change(row("abc"), row("ac")), (1, 2, ()))
        self.assertEqual(row_change(row("abc"), row("ab")), (2, 3, ()))
        self.assertEqual(row_change(row("abc"), ()), (0, 3, ()))

    def test_words_in_the_place_of_others(self):
        self.assertEqual(row_change(row("abc"), row("axc")), (1, 2, row("x")))
        self.assertEqual(row_change(row("abc"), row("xyz")), (0, 3, row("xyz")))
        self.assertEqual(row_change(row("abcd"), row("axyzd")), (1, 3, row("xyz")))
        self.assertEqual(row_change(row("abcde"), row("xbcdy")), (0, 5, row("xbcdy")))

    def test_words_alike_at_a_changes_edges(self):
        # The words alike at the begin are counted first; those at the end lie behind them.
        self.assertEqual(row_change(row("a"), row("aa")), (1, 1, row("a")))
        self.assertEqual(row_change(row("aa"), row("a")), (1, 2, ()))
        self.assertEqual(row_change(row("aaa"), row("aa")), (2, 3, ()))
        self.assertEqual(row_change(row("aba"), row("ababa")), (3, 3, row("ba")))
        self.assertEqual(row_change(row("ababa"), row("aba")), (3, 5, ()))
        self.assertEqual(row_change(row("abab"), row("abxab")), (2, 2, row("x")))
        self.assertEqual(row_change(row("aab"), row("ab")), (1, 2, ()))
        self.assertEqual(row_change(row("ab"), row("aab")), (1, 1, row("a")))

    def test_whole_words_are_alike_not_their_signs(self):
        self.assertEqual(row_change(("ab", "cd"), ("ab", "ce", "cd")), (1, 1, ("ce",)))
        self.assertEqual(row_change(("ab", "cd"), ("abcd",)), (0, 2, ("abcd",)))

    def test_the_change_done_in_was_is_the_other(self):
        for was, other in itertools.permutations(SHORT_ROWS, 2):
            a, b, words = row_change(was, other)
            self.assertEqual(was[:a] + words + was[b:], other)
            self.assertTrue(0 <= a <= b <= len(was))
            begins = [k for k in range(min(len(was), len(other)) + 1) if was[:k] == other[:k]]
            self.assertEqual(a, max(begins))
            ends = [k for k in range(min(len(was), len(other)) - a + 1) if was[len(was) - k:] == other[len(other) - k:]]
            self.assertEqual(b, len(was) - max(ends))
            self.assertTrue(only_plain((a, b, words)))


class RowsByThree(unittest.TestCase):
    def three(self, was, mine, yours):
        told = rows_by_three(row(was), row(mine), row(yours))
        return None if told is None else "".join(told)

    def test_one_is_as_it_was(self):
        self.assertEqual(self.three("abc", "xbc", "abc"), "xbc")
        self.assertEqual(self.three("abc", "abc", "abx"), "abx")
        self.assertEqual(self.three("abc", "abc", "abc"), "abc")
        self.assertEqual(self.three("", "", "ab"), "ab")
        self.assertEqual(self.three("", "ab", ""), "ab")
        self.assertEqual(self.three("ab", "", "ab"), "")

    def test_both_do_the_same(self):
        self.assertEqual(self.three("abc", "axc", "axc"), "axc")
        self.assertEqual(self.three("abc", "abcx", "abcx"), "abcx")
        self.assertEqual(self.three("abc", "", ""), "")

    def test_mine_ahead_of_yours(self):
        self.assertEqual(self.three("abcd", "xbcd", "abcy"), "xbcy")
        self.assertEqual(self.three("abcd", "bcd", "abcyyd"), "bcyyd")
        self.assertEqual(self.three("abcd", "xabcd", "abc"), "xabc")

    def test_mine_behind_yours(self):
        self.assertEqual(self.three("abcd", "abcy", "xbcd"), "xbcy")
        self.assertEqual(self.three("abcd", "abcyyd", "bcd"), "bcyyd")
        self.assertEqual(self.three("abcd", "abc", "xabcd"), "xabc")

    def test_one_change_lies_just_at_the_end_of_the_other(self):
        self.assertEqual(self.three("abcd", "axcd", "abyd"), "axyd")
        self.assertEqual(self.three("abcd", "abyd", "axcd"), "axyd")
        self.assertEqual(self.three("abcd", "axcd", "abycd"), "axycd")
        self.assertEqual(self.three("abcd", "abycd", "axcd"), "axycd")
        self.assertEqual(self.three("abcd", "abyd", "abxcd"), "abxyd")
        self.assertEqual(self.three("abcd", "abxcd", "abyd"), "abxyd")
        self.assertEqual(self.three("abcd", "cd", "ab"), "")

    def test_changes_that_lie_in_one_another_clash(self):
        self.assertIsNone(self.three("abcd", "axd", "abyd"))
        self.assertIsNone(self.three("abcd", "abyd", "axd"))
        self.assertIsNone(self.three("abcd", "axcd", "aycd"))
        self.assertIsNone(self.three("abcd", "ad", "abxcd"))
        self.assertIsNone(self.three("abcd", "abxcd", "ad"))
        self.assertIsNone(self.three("abc", "", "abxc"))
        self.assertIsNone(self.three("abcd", "d", "ab"))

    def test_both_put_words_in_at_the_same_place(self):
        self.assertIsNone(self.three("abc", "abxc", "abyc"))
        self.assertIsNone(self.three("abc", "xabc", "yabc"))
        self.assertIsNone(self.three("abc", "abcx", "abcy"))
        self.assertIsNone(self.three("", "x", "y"))
        self.assertIsNone(self.three("abc", "abxc", "abxyc"))

    def test_words_alike_at_a_changes_edges(self):
        # A word more of the same is put in behind those that are there, whichever was meant.
        self.assertIsNone(self.three("aa", "aaa", "aab"))
        self.assertEqual(self.three("aab", "ab", "aaab"), "aab")
        self.assertEqual(self.three("aa", "a", "baa"), "ba")
        self.assertEqual(self.three("abab", "ab", "xabab"), "xab")

    def test_as_python_does_both_changes(self):
        clashes = 0
        for was, mine, yours in itertools.product(SHORT_ROWS, repeat=3):
            told = rows_by_three(was, mine, yours)
            self.assertEqual(told, second(was, mine, yours), (was, mine, yours))
            self.assertEqual(rows_by_three(was, yours, mine), told)
            clashes += told is None
        self.assertTrue(1000 < clashes < 3000, clashes)


def second(was, mine, yours):
    """Rows by three by another way: each place of was, and the gap ahead of it, taken on by one of the two."""
    if was in (mine, yours) or mine == yours:
        return mine if yours == was else yours
    (a, b, words), (c, d, others) = row_change(was, mine), row_change(was, yours)
    if (a, b) == (c, d) and a == b:
        return None
    if set(range(a, b)) & set(range(c, d)) or c < a == b < d or a < c == d < b:
        return None
    done = list(was)
    for start, end, put in sorted([(a, b, words), (c, d, others)], reverse=True):
        done[start:end] = put
    return tuple(done)


class Joined(unittest.TestCase):
    def test_last(self):
        for was, mine, yours in ((1, 2, 3), (0, LAST, 0), (5, 5, 5), (1, 2, 1)):
            self.assertEqual(joined(("last",), was, mine, yours, True), yours)
            self.assertEqual(joined(("last",), was, mine, yours, False), mine)

    def test_sum(self):
        for wrote in (True, False):
            self.assertEqual(joined(("sum",), 10, 12, 17, wrote), 19)
            self.assertEqual(joined(("sum",), 10, 10, 10, wrote), 10)
            self.assertEqual(joined(("sum",), 10, 3, 4, wrote), WIDE - 3)
            self.assertEqual(joined(("sum",), 0, LAST, 1, wrote), 0)
            self.assertEqual(joined(("sum",), 0, LAST, LAST, wrote), LAST - 1)
            self.assertEqual(joined(("sum",), LAST, 0, 0, wrote), 1)
            self.assertEqual(joined(("sum",), LAST, LAST, LAST, wrote), LAST)
            self.assertEqual(joined(("sum",), 1, 0, 0, wrote), LAST)
            self.assertEqual(joined(("sum",), 1, 1, 0, wrote), 0)

    def test_bag(self):
        was = (("a", 1), ("b", -1))
        mine = (("a", 2), ("c", 1))
        yours = (("b", -1), ("c", 1))
        for wrote in (True, False):
            self.assertEqual(joined(("bag",), was, mine, yours, wrote), (("a", 1), ("c", 2)))
            self.assertEqual(joined(("bag",), was, was, was, wrote), was)
            self.assertEqual(joined(("bag",), was, (), (), wrote), (("a", -1), ("b", 1)))
            self.assertEqual(joined(("bag",), (("a", 1),), (("a", 1),), (), wrote), ())
            self.assertEqual(joined(("bag",), (), (), (), wrote), ())

    def test_told_where_yours_was_written(self):
        manner = ("told", 3, read_term("(+ was (* mine yours))", True))
        for was, mine, yours in itertools.product(range(3), repeat=3):
            self.assertEqual(joined(manner, was, mine, yours, True), (was + mine * yours) % 3)
            self.assertEqual(joined(manner, was, mine, yours, False), mine)

    def test_told_is_taken_by_n_behind_the_rest_by_wide(self):
        less = read_term("(- mine yours)", True)
        for n in (2, 3, 4, 5):
            self.assertEqual(joined(("told", n, less), 0, 0, 1, True), LAST % n)
            self.assertEqual(joined(("told", n, ("num", LAST)), 0, 0, 1, True), LAST % n)
            self.assertEqual(joined(("told", n, less), 0, 0, 1, False), 0)
            self.assertEqual(joined(("told", n, ("num", n)), 1, 1, 1, True), 0)

    def test_row(self):
        for wrote in (True, False):
            self.assertEqual(joined(("row",), row("abc"), row("xbc"), row("aby"), wrote), row("xby"))
            self.assertEqual(joined(("row",), row("abc"), row("abc"), row("aby"), wrote), row("aby"))
            self.assertIsNone(joined(("row",), row("abc"), row("x"), row("y"), wrote))
            self.assertEqual(joined(("row",), row("abc"), (), row("abc"), wrote), ())

    def test_of_many_values(self):
        chance = random.Random(7)
        bag = ((), (("a", 1),), (("a", -1), ("b", 2)), (("b", 2), ("c", 5)))
        numbers = (0, 1, 2, LAST - 1, LAST)
        for was, mine, yours in itertools.product(numbers, repeat=3):
            wrote = chance.random() < 0.5
            self.assertEqual(joined(("sum",), was, mine, yours, wrote), (mine + yours - was) & LAST)
        for was, mine, yours in itertools.product(bag, repeat=3):
            wrote = chance.random() < 0.5
            self.assertEqual(joined(("bag",), was, mine, yours, wrote), bags_added(mine, bags_less(yours, was)))
        term = read_term("(if (< was mine) (- yours mine) (+ yours was))", True)
        for was, mine, yours in itertools.product(range(5), repeat=3):
            told = joined(("told", 5, term), was, mine, yours, True)
            self.assertEqual(told, value_of_three(term, was, mine, yours) % 5)
            self.assertIs(type(told), int)

    def test_nothing_is_changed_and_the_same_is_told(self):
        three = (row("abc"), row("xabc"), row("abcy"))
        before = copy.deepcopy(three)
        for _ in range(2):
            self.assertEqual(rows_by_three(*three), row("xabcy"))
            self.assertEqual(joined(("row",), *three, True), row("xabcy"))
            self.assertEqual(row_change(three[0], three[1]), (0, 0, row("x")))
            self.assertEqual(three, before)


if __name__ == "__main__":
    unittest.main()
