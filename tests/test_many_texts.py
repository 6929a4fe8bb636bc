"""Many programs and many texts that are nearly right, against a second judge that reads by patterns alone."""

import random
import re
import unittest

from copiedhouse.errors import BadText
from copiedhouse.reader import read
from copiedhouse.termreader import read_term
from copiedhouse.writer import show, show_term
from tests.samples import WIDE, only_plain

WORDS = "a b ab abcdefgh shelf hand last sum bag row told set more in out lay drop tell when split join".split()
WORDS += "many long if was mine yours num op z zz".split()
NUMBERS = (0, 1, 2, 5, 9, 10, 99, 999999999, 1000000000, WIDE - 1)


class Maker:
    """Makes programs of all forms, let by or not; the same ones each time."""

    def __init__(self, seed):
        self.chance = random.Random(seed)

    def word(self):
        if self.chance.random() < 0.7:
            return self.chance.choice(WORDS)
        return "".join(self.chance.choice("abcxyz") for _ in range(self.chance.randint(1, 8)))

    def term(self, told, deep):
        kind = self.chance.choice(("num", "leaf", "leaf", "op", "op", "if"))
        if kind == "op" and deep:
            return ("op", self.chance.choice("+-*<="), self.term(told, deep - 1), self.term(told, deep - 1))
        if kind == "if" and deep:
            return ("if", self.term(told, deep - 1), self.term(told, deep - 1), self.term(told, deep - 1))
        if kind == "leaf" and told:
            return (self.chance.choice(("was", "mine", "yours")),)
        if kind == "leaf":
            leaves = (("shelf", self.word()), ("many", self.word(), self.word()), ("long", self.word()))
            return self.chance.choice(leaves)
        return ("num", self.chance.choice(NUMBERS))

    def deed(self):
        kind = self.chance.choice(("set", "more", "in", "out", "lay", "drop", "tell"))
        if kind == "tell":
            return (kind, self.term(False, 3))
        if kind in ("in", "out"):
            return (kind, self.word(), self.word())
        if kind == "lay":
            return (kind, self.word(), self.term(False, 3), self.word())
        return (kind, self.word(), self.term(False, 3))

    def row(self):
        kind = self.chance.choice(("deed", "deed", "when", "split", "join"))
        if kind == "deed":
            return self.deed()
        if kind == "when":
            return ("when", self.term(False, 2), self.deed())
        return (kind, self.word())

    def shelf(self):
        manner = self.chance.choice(("last", "sum", "bag", "row", "told"))
        if manner == "told":
            n = self.chance.randint(2, 5)
            return (self.word(), ("told", n, self.term(True, 3)), self.chance.randrange(n))
        if manner == "bag":
            words = sorted({self.word() for _ in range(self.chance.randint(0, 4))})
            bag = tuple((word, self.chance.choice((1, -1, 99, -99, 999999999, -999999999))) for word in words)
            return (self.word(), ("bag",), bag)
        if manner == "row":
            return (self.word(), ("row",), tuple(self.word() for _ in range(self.chance.randint(0, 5))))
        return (self.word(), (manner,), self.chance.choice(NUMBERS))

    def program(self):
        shelves = tuple(self.shelf() for _ in range(self.chance.randint(0, 4)))
        hands = []
        for _ in range(self.chance.randint(0, 4)):
            hands.append((self.word(), tuple(self.row() for _ in range(self.chance.randint(0, 6)))))
        return (shelves, tuple(hands))

    def changed(self, text):
        """The text with a sign or a stretch put in, taken out, doubled or exchanged."""
        signs = "  \n()()-+0123456789azA"
        pieces = ("(", ")", " ", "\n", "0", "-", "when", "tell 1", " 1", " a", "(1)", "4294967296", "shelf a last 1", "hand a")
        at = self.chance.randint(0, len(text))
        end = min(len(text), at + self.chance.randint(0, 3))
        kind = self.chance.randrange(6)
        if kind == 0:
            return text[:at] + self.chance.choice(signs) + text[at:]
        if kind == 1:
            return text[:at] + text[end:]
        if kind == 2:
            return text[:at] + self.chance.choice(signs) + text[end:]
        if kind == 3:
            return text[:at] + self.chance.choice(pieces) + text[at:]
        parts = re.split(r"([ \n()])", text)
        one = self.chance.randrange(len(parts))
        other = self.chance.randrange(len(parts))
        if kind == 4:
            parts[one], parts[other] = parts[other], parts[one]
        else:
            parts.insert(one, parts[other])
        return "".join(parts)


W = "[a-z]{1,8}"
K = "(?:0|[1-9][0-9]{0,9})"
BRACKET = re.compile(r"\(([^()]*)\)")


class Judge:
    """Judges texts by putting a mark `#depth#` in the place of each bracket, from the inside."""

    def leaf(self, told):
        return "(?:was|mine|yours)" if told else W

    def arg(self, told):
        return f"(?:{self.leaf(told)}|{K}|#[0-9]+#)"

    def numbers_fit(self, text):
        numbers = re.findall(r"(?<![^ ])[0-9]+(?![^ ])", text)
        return all(int(number) < WIDE for number in numbers if len(number) <= 10)

    def without_brackets(self, text, told):
        """The text with marks, or None where a bracket is of no form."""
        if "#" in text:
            return None
        arg = self.arg(told)
        forms = [f"[-+*<=] {arg} {arg}", f"if {arg} {arg} {arg}"]
        if not told:
            forms += [f"many {W} {W}", f"long {W}"]
        while True:
            found = BRACKET.search(text)
            if found is None:
                return text
            inside = found.group(1)
            if not any(re.fullmatch(form, inside) for form in forms) or not self.numbers_fit(inside):
                return None
            deep = 1 + max([int(mark) for mark in re.findall(r"#([0-9]+)#", inside)], default=0)
            if deep > 20:
                return None
            text = f"{text[:found.start()]}#{deep}#{text[found.end():]}"

    def is_term(self, text, told):
        flat = self.without_brackets(text, told)
        return flat is not None and re.fullmatch(self.arg(told), flat) is not None and self.numbers_fit(flat)

    def is_shelf(self, line):
        if re.fullmatch(f"shelf {W} (?:last|sum) {K}", line):
            return self.numbers_fit(line)
        if re.fullmatch(f"shelf {W} row(?: {W})*", line):
            return True
        if re.fullmatch(f"shelf {W} bag(?: {W} -?[1-9][0-9]{{0,8}})*", line):
            words = line.split(" ")[3::2]
            return words == sorted(set(words))
        told = re.fullmatch(f"shelf {W} told ([2-5]) ([0-4]) (.*)", line)
        return told is not None and int(told.group(2)) < int(told.group(1)) and self.is_term(told.group(3), True)

    def is_row(self, line):
        flat = self.without_brackets(line, False)
        if flat is None or not self.numbers_fit(flat):
            return False
        arg = self.arg(False)
        deed = f"(?:(?:set|more|drop) {W} {arg}|(?:in|out) {W} {W}|lay {W} {arg} {W}|tell {arg})"
        return re.fullmatch(f"(?:{deed}|when {arg} {deed}|(?:split|join) {W})", flat) is not None

    def first_wrong(self, text):
        """The number of the first row by which a text can't be one, or None."""
        if text == "":
            return None
        hands = False
        for at, line in enumerate(text.split("\n")):
            if re.fullmatch(f"hand {W}", line):
                hands = True
            elif not (self.is_row(line) if hands else self.is_shelf(line)):
                return at
        return None


def told_of(text):
    """The number at which a text is refused, or None."""
    try:
        read(text)
    except BadText as error:
        return error.at
    return None


class ManyTexts(unittest.TestCase):
    def test_each_program_is_read_from_its_text(self):
        maker = Maker(1)
        for _ in range(600):
            program = maker.program()
            text = show(program)
            self.assertEqual(read(text), program)
            self.assertTrue(only_plain(read(text)))
            self.assertEqual(show(read(text)), text)
            self.assertIsNone(Judge().first_wrong(text), text)

    def test_unlike_programs_have_unlike_texts(self):
        maker = Maker(2)
        programs = {maker.program() for _ in range(400)}
        self.assertEqual(len({show(program) for program in programs}), len(programs))

    def test_each_term_is_read_from_its_text(self):
        maker = Maker(3)
        for k in range(600):
            told = k % 2 == 0
            term = maker.term(told, 6)
            self.assertEqual(read_term(show_term(term), told), term)
            self.assertTrue(Judge().is_term(show_term(term), told))

    def test_changed_texts_are_judged_alike(self):
        maker = Maker(4)
        right = 0
        for _ in range(4000):
            text = show(maker.program())
            for _ in range(maker.chance.randint(1, 3)):
                text = maker.changed(text)
            at = Judge().first_wrong(text)
            self.assertEqual(told_of(text), at, text)
            if at is None:
                right += 1
                self.assertEqual(show(read(text)), text)
        self.assertTrue(200 < right < 3800, right)

    def test_changed_terms_are_judged_alike(self):
        maker = Maker(5)
        right = 0
        for k in range(4000):
            told = k % 2 == 0
            text = maker.changed(show_term(maker.term(told, 4)))
            judged = Judge().is_term(text, told)
            try:
                term = read_term(text, told)
            except BadText as error:
                self.assertEqual(error.at, 0)
                self.assertFalse(judged, text)
            else:
                right += 1
                self.assertTrue(judged, text)
                self.assertEqual(show_term(term), text)
        self.assertTrue(200 < right < 3800, right)


if __name__ == "__main__":
    unittest.main()
