import unittest

from copiedhouse.errors import BadText
from copiedhouse.termreader import read_term
from copiedhouse.writer import show_term
from tests.samples import COMMON_TERMS, NO_TERMS, OPEN_TERMS, TOLD_TERMS, brackets, num, only_plain, op, shelf


class Reads(unittest.TestCase):
    def reads(self, text, told, term):
        read = read_term(text, told)
        self.assertEqual(read, term, text)
        self.assertTrue(only_plain(read), text)

    def test_terms_of_both_sorts(self):
        for term, text in COMMON_TERMS:
            self.reads(text, False, term)
            self.reads(text, True, term)

    def test_open_terms(self):
        for term, text in OPEN_TERMS:
            self.reads(text, False, term)

    def test_told_terms(self):
        for term, text in TOLD_TERMS:
            self.reads(text, True, term)

    def test_was_mine_and_yours_are_shelves_elsewhere(self):
        self.reads("(if was mine yours)", False, ("if", shelf("was"), shelf("mine"), shelf("yours")))
        self.reads("(if was mine yours)", True, ("if", ("was",), ("mine",), ("yours",)))

    def test_twenty_brackets_within_one_another(self):
        for many in (1, 6, 7, 19, 20):
            for told in (False, True):
                read = read_term(brackets(many), told)
                self.assertEqual(show_term(read), brackets(many))

    def test_twenty_brackets_of_all_sorts(self):
        inmost = op("*", num(2), num(3))
        for k in range(19):
            inmost = ("if", num(k), inmost, num(1)) if k % 2 else op("-", inmost, num(k))
        self.reads(show_term(inmost), False, inmost)
        self.reads(show_term(inmost), True, inmost)
        self.reads(brackets(19, "(long a)"), False, read_term(brackets(19, "(long a)"), False))
        self.reads(brackets(19, "(many a b)"), False, read_term(brackets(19, "(many a b)"), False))

    def test_brackets_beside_one_another_are_not_within(self):
        text = "(if (+ 1 2) (+ 3 4) (+ 5 6))"
        for _ in range(6):
            text = f"(if {text} {text} 1)"
        self.assertEqual(show_term(read_term(text, False)), text)
        # In each third of the outer term stand twenty brackets within one another.
        text = f"(if {brackets(19)} {brackets(19)} {brackets(19)})"
        self.assertEqual(show_term(read_term(text, True)), text)

    def test_a_term_of_thousands_of_words(self):
        text = "1"
        while len(text) < 9000:
            text = f"(+ {text} {text})"
        self.assertEqual(show_term(read_term(text, False)), text)

    def test_asked_again_the_same_is_told(self):
        for text in ("a", "(+ 1 (long a))"):
            self.assertEqual(read_term(text, False), read_term(text, False))


class Refuses(unittest.TestCase):
    def refuses(self, text, told):
        with self.assertRaises(BadText, msg=repr(text[:60])) as caught:
            read_term(text, told)
        self.assertEqual(caught.exception.at, 0)
        self.assertIs(type(caught.exception.at), int)

    def test_what_is_no_term(self):
        for text in NO_TERMS:
            self.refuses(text, False)
            self.refuses(text, True)

    def test_a_wrong_term_within_others(self):
        for text in NO_TERMS:
            for told in (False, True):
                self.refuses(f"(+ {text} 1)", told)
                self.refuses(f"(if 0 1 {text})", told)

    def test_a_told_manner_asks_for_no_shelf(self):
        for text in ("a", "if", "wa", "wass", "num", "told", "(long r)", "(many b w)", "(long was)", "(many was mine)"):
            self.refuses(text, True)
            self.refuses(f"(+ was {text})", True)
            self.refuses(f"(if {text} 1 2)", True)

    def test_more_than_twenty_brackets(self):
        for many in (21, 22, 30, 100, 1000, 3000):
            for told in (False, True):
                self.refuses(brackets(many), told)
        self.refuses(brackets(20, "(long a)"), False)
        self.refuses(brackets(20, "(many a b)"), False)
        self.refuses(f"(if 1 2 {brackets(20)})", False)
        self.refuses(f"(if {brackets(20)} 1 2)", True)
        self.refuses(f"(if {brackets(19)} {brackets(20)} {brackets(19)})", True)

    def test_thousands_of_brackets_of_whatever_sort(self):
        for text in ("(" * 19999, ")" * 19999, "()" * 9999, "(+ " * 6000, "(if " * 5000, "( " * 9999, " )" * 9999):
            self.refuses(text, False)
            self.refuses(text, True)
        self.refuses("(" * 9000 + "1" + ")" * 9000, False)
        self.refuses("1" + ")" * 9000, False)
        self.refuses("(+ 1 2" + ")" * 9000, False)


if __name__ == "__main__":
    unittest.main()
