import string
import unittest

from copiedhouse.words import WIDE, is_word


class Wide(unittest.TestCase):
    def test_wide_is_two_to_the_thirty_second(self):
        self.assertEqual(WIDE, 2 ** 32)
        self.assertIs(type(WIDE), int)


class Words(unittest.TestCase):
    def are(self, texts, told):
        for text in texts:
            self.assertIs(is_word(text), told, repr(text))

    def test_each_small_letter_is_a_word(self):
        self.are(string.ascii_lowercase, True)

    def test_each_letter_may_stand_at_each_place(self):
        for place in range(8):
            self.are(["m" * place + sign + "m" * (7 - place) for sign in string.ascii_lowercase], True)

    def test_words_have_one_to_eight_letters(self):
        for length in range(1, 9):
            self.are(["a" * length, "abcdefgh"[:length], "z" * length], True)

    def test_the_text_without_signs_is_none(self):
        self.are([""], False)

    def test_nine_letters_and_more_are_none(self):
        self.are(["abcdefghi", "a" * 9, "a" * 10, "a" * 16, "a" * 20000], False)

    def test_words_of_the_texts_are_words_too(self):
        self.are("shelf hand last sum bag row told set more in out lay drop tell when split join".split(), True)
        self.are("many long if was mine yours num op".split(), True)

    def test_no_other_sign_is_in_a_word_at_whatever_place(self):
        others = [chr(code) for code in range(128) if chr(code) not in string.ascii_lowercase]
        self.assertEqual(len(others), 102)
        for sign in others:
            self.are([sign, "a" + sign, sign + "a", "a" + sign + "b", "abcdefg" + sign], False)

    def test_line_feeds_blanks_figures_and_great_letters_are_none(self):
        self.are(["a\n", "\na", "\n", "abcdefgh\n", "a\r", "a\t"], False)
        self.are([" ", "a ", " a", "a b"], False)
        self.are(["0", "a1", "1a", "12"], False)
        self.are(["A", "Ab", "aB", "ABCDEFGH"], False)
        self.are(["a_b", "_", "a-b", "`", "{", "(a)", "'a'"], False)

    def test_letters_of_other_alphabets_are_none(self):
        self.are(["\u00e4", "a\u00e9", "\u00df", "\u03b1", "\u0430", "\u00aa", "\uff41", "\u0131", "\u0663"], False)

    def test_asked_again_it_is_told_the_same(self):
        for text in ("a", "abcdefgh", "abcdefghi", "", "a\n"):
            self.assertIs(is_word(text), is_word(text))


if __name__ == "__main__":
    unittest.main()
