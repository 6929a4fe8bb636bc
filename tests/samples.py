"""Programs, texts and terms that several tests ask for, and what tells their kinds."""

import random

from copiedhouse.reader import read
from copiedhouse.triples import joined

WIDE = 4294967296


def only_plain(value):
    """Whether a value is made of tuples, texts and whole numbers alone, none of them a truth."""
    if type(value) is tuple:
        return all(only_plain(inner) for inner in value)
    return type(value) in (str, int)


def num(k):
    return ("num", k)


def shelf(word):
    return ("shelf", word)


def op(sign, one, other):
    return ("op", sign, one, other)


def nested(deep, inmost=("num", 1)):
    """A term of ops, each within the one before, on the left and the right by turns."""
    term = inmost
    for k in range(deep):
        term = op("+", term, num(k)) if k % 2 else op("-", num(k), term)
    return term


def deeds_of_all_sorts(term):
    return (
        ("set", "s", term),
        ("more", "s", term),
        ("in", "s", "w"),
        ("out", "s", "w"),
        ("lay", "s", term, "w"),
        ("drop", "s", term),
        ("tell", term),
    )


WHOLE_TEXT = """\
shelf count last 0
shelf total sum 4294967295
shelf things bag apple 2 nut -3 pear 999999999
shelf queue row nut apple nut
shelf light told 3 2 (if (= was mine) yours (+ mine 1))
shelf nothing bag
shelf kid row
hand main
split kid
when (= count 0) set count 7
split zed
lay queue (long queue) pear
join kid
join pal
join zed
hand aunt
in things apple
hand zed
split aunt
out things nut
when (< 1 (many things nut)) drop queue 0
join aunt
hand pal
tell (if count total (- 5 light))
when light tell 0
hand kid
split pal
more total (* total 2)
set light 1"""

WHOLE = (
    (
        ("count", ("last",), 0),
        ("total", ("sum",), WIDE - 1),
        ("things", ("bag",), (("apple", 2), ("nut", -3), ("pear", 999999999))),
        ("queue", ("row",), ("nut", "apple", "nut")),
        (
            "light",
            ("told", 3, ("if", ("op", "=", ("was",), ("mine",)), ("yours",), ("op", "+", ("mine",), ("num", 1)))),
            2,
        ),
        ("nothing", ("bag",), ()),
        ("kid", ("row",), ()),
    ),
    (
        (
            "main",
            (
                ("split", "kid"),
                ("when", ("op", "=", ("shelf", "count"), ("num", 0)), ("set", "count", ("num", 7))),
                ("split", "zed"),
                ("lay", "queue", ("long", "queue"), "pear"),
                ("join", "kid"),
                ("join", "pal"),
                ("join", "zed"),
            ),
        ),
        ("aunt", (("in", "things", "apple"),)),
        (
            "zed",
            (
                ("split", "aunt"),
                ("out", "things", "nut"),
                ("when", ("op", "<", ("num", 1), ("many", "things", "nut")), ("drop", "queue", ("num", 0))),
                ("join", "aunt"),
            ),
        ),
        (
            "pal",
            (
                ("tell", ("if", ("shelf", "count"), ("shelf", "total"), ("op", "-", ("num", 5), ("shelf", "light")))),
                ("when", ("shelf", "light"), ("tell", ("num", 0))),
            ),
        ),
        (
            "kid",
            (
                ("split", "pal"),
                ("more", "total", ("op", "*", ("shelf", "total"), ("num", 2))),
                ("set", "light", ("num", 1)),
            ),
        ),
    ),
)

FIVE_SHELVES = """\
shelf n last 1
shelf s sum 10
shelf b bag x 1
shelf r row p q
shelf t told 3 2 (+ mine yours)
"""

# Rows of main: 0 split, 1 set, 2 more, 3 when, 4 when, 5 tell, 6 join, 7 when.
FIVE = read(FIVE_SHELVES + """\
hand main
split kid
set n (+ s 5)
more s n
when (= n 0) set n 9
when (many b x) set t (long r)
tell n
join kid
when n lay r 0 z
hand kid
set n n
in b y
drop r 1
more s 100
set t 1""")

# Terms and their texts: of a told manner, and of the others.
COMMON_TERMS = (
    (num(0), "0"),
    (num(7), "7"),
    (num(10), "10"),
    (num(999999999), "999999999"),
    (num(1000000000), "1000000000"),
    (num(WIDE - 1), "4294967295"),
    (op("+", num(1), num(2)), "(+ 1 2)"),
    (op("-", num(1), num(2)), "(- 1 2)"),
    (op("*", num(1), num(2)), "(* 1 2)"),
    (op("<", num(1), num(2)), "(< 1 2)"),
    (op("=", num(1), num(2)), "(= 1 2)"),
    (("if", num(1), num(2), num(3)), "(if 1 2 3)"),
    (op("+", op("-", num(1), num(2)), op("*", num(3), num(4))), "(+ (- 1 2) (* 3 4))"),
    (("if", ("if", num(1), num(2), num(3)), num(4), op("<", num(5), num(6))), "(if (if 1 2 3) 4 (< 5 6))"),
)
OPEN_TERMS = (
    (shelf("a"), "a"),
    (shelf("abcdefgh"), "abcdefgh"),
    (("many", "b", "w"), "(many b w)"),
    (("many", "abcdefgh", "stuvwxyz"), "(many abcdefgh stuvwxyz)"),
    (("long", "r"), "(long r)"),
    (("long", "abcdefgh"), "(long abcdefgh)"),
    (op("=", ("long", "r"), ("many", "b", "w")), "(= (long r) (many b w))"),
    (("if", shelf("a"), shelf("b"), ("long", "c")), "(if a b (long c))"),
    # Words that are like words of the texts.
    (shelf("if"), "if"),
    (shelf("was"), "was"),
    (shelf("mine"), "mine"),
    (shelf("yours"), "yours"),
    (shelf("num"), "num"),
    (("many", "many", "many"), "(many many many)"),
    (("long", "long"), "(long long)"),
    (("if", shelf("if"), shelf("if"), shelf("if")), "(if if if if)"),
    (op("+", shelf("long"), shelf("many")), "(+ long many)"),
)
TOLD_TERMS = (
    (("was",), "was"),
    (("mine",), "mine"),
    (("yours",), "yours"),
    (op("-", op("+", ("mine",), ("yours",)), ("was",)), "(- (+ mine yours) was)"),
    (("if", op("=", ("was",), ("mine",)), ("yours",), ("mine",)), "(if (= was mine) yours mine)"),
)

# Texts that are no term, whatever the manner.
NO_TERMS = (
    # words and numbers
    "", "A", "aB", "a1", "1a", "abcdefghi", "a_b", "+", "-", "#", "a,", "a.b", "-a",
    "4294967296", "4294967299", "9999999999", "10000000000", "42949672950", "1" * 5000, "0" * 5000,
    "00", "01", "007", "00000000000", "0000000001", "-1", "-0", "+1", "1_0", "1.0", "0x1", "1e3", "--1",
    "\u0663", "\u00b2", "\u00e4",
    # blanks and line feeds
    " ", "  ", " 1", "1 ", " a", "a ", "\n", "1\n", "\n1", "a\n", "\ta", "a\t", "a\r", "1 2", "a b",
    " (+ 1 2)", "(+ 1 2) ", "( + 1 2)", "(+ 1 2 )", "(+  1 2)", "(+ 1  2)", "(+ 1 2)\n", "(+\n1 2)", "(+\t1 2)",
    "(+ (- 1 2) (- 1 2) )", "( (+ 1 2))", "(+ ( - 1 2) 3)", "(+ (- 1 2 ) 3)",
    # brackets
    "()", "( )", "(", ")", ")(", "(1)", "(a)", "((+ 1 2))", "(+ (1) 2)", "(+ 1 (2))", "(+ (a) 2)", "((1))",
    "(+ 1 2", "+ 1 2)", "+ 1 2", "(+ 1 2))", "((+ 1 2)", "(+ 1 (- 2 3)", "(+ 1 - 2 3))", "(+ (- 1 2) 3))",
    "(+ 1 2)(+ 1 2)", "(+ 1 2) (+ 1 2)", "(+ 1 2)3", "3(+ 1 2)", "(+(- 1 2) 3)", "(+ (- 1 2)3)", "(+ 1(- 2 3))",
    "(+1 2)", "[+ 1 2]", "{+ 1 2}", "<+ 1 2>", ")+ 1 2(", "(+ 1 2()", "(+ 1 2 ())", "(if (1) 2 3)",
    "(was)", "(mine)", "(yours)", "(num 1)", "(shelf a)", "(op + 1 2)", "shelf a", "num 1",
    # heads, and as many words as they have
    "(+)", "(+ 1)", "(+ 1 2 3)", "(- 1)", "(* 1 2 3)", "(<)", "(= 1)", "(if)", "(if 1)", "(if 1 2)", "(if 1 2 3 4)",
    "(1 2)", "(1 + 2)", "(/ 1 2)", "(> 1 2)", "(<= 1 2)", "(== 1 2)", "(** 1 2)", "(++ 1 2)", "(!= 1 2)",
    "(foo 1 2)", "(IF 1 2 3)", "(If 1 2 3)", "(iff 1 2 3)", "(i 1 2 3)", "(& 1 2)", "(1 2 3)", "(a 1 2)",
    "(many)", "(many a)", "(many a b c)", "(many a 1)", "(many 1 a)", "(many (a) b)", "(many a (b))", "(many A b)",
    "(many a abcdefghi)", "(many abcdefghi a)", "(many a B)", "(many (long a) b)", "many a b", "(many  a b)",
    "(long)", "(long a b)", "(long 1)", "(long (a))", "(long A)", "(long abcdefghi)", "(long (long a))", "long a",
    "(Long a)", "(longer a)", "( long a)", "(long a )", "(long  a)",
    "(+ 1 4294967296)", "(+ 01 2)", "(+ -1 2)", "(if 1 2 -3)", "(+ 1 abcdefghi)", "(+ A 1)", "(+ 1 +)", "(+ + 1)",
)


def brackets(many, inmost="1"):
    """The text of a term with so many brackets within one another."""
    return "(+ 1 " * many + inmost + ")" * many


class LetBy:
    """Makes programs that are let by, of one seed the same ones each time; shelves, hands and things share their words."""

    WORDS = ("a", "b", "c", "d", "e", "f", "g", "h")

    def __init__(self, seed):
        self.chance = random.Random(seed)
        self.shelves = ()

    def told_term(self, deep):
        kind = self.chance.choice(("num", "three", "three", "op", "if")) if deep else self.chance.choice(("num", "three"))
        if kind == "num":
            return num(self.chance.choice((0, 1, 2, 3)))
        if kind == "three":
            return (self.chance.choice(("was", "mine", "yours")),)
        many = 2 if kind == "op" else 3
        inner = tuple(self.told_term(deep - 1) for _ in range(many))
        return ("op", self.chance.choice("+-*<=")) + inner if kind == "op" else ("if",) + inner

    def shelf(self, word):
        manner = self.chance.choice(("last", "sum", "bag", "row", "row", "told"))
        if manner == "told":
            n = self.chance.randint(2, 5)
            return (word, ("told", n, self.told_term(2)), self.chance.randrange(n))
        if manner == "bag":
            things = sorted(self.chance.sample(self.WORDS[:4], self.chance.randint(0, 3)))
            return (word, ("bag",), tuple((thing, self.chance.choice((-2, -1, 1, 2))) for thing in things))
        if manner == "row":
            return (word, ("row",), tuple(self.chance.choice("abc") for _ in range(self.chance.randint(0, 6))))
        return (word, (manner,), self.chance.choice((0, 1, 5, WIDE - 1)))

    def leaf(self):
        if not self.shelves or self.chance.random() < 0.4:
            return num(self.chance.choice((0, 0, 1, 1, 2, 3, 4, WIDE - 1)))
        word, manner, _ = self.chance.choice(self.shelves)
        if manner == ("bag",):
            return ("many", word, self.chance.choice(self.WORDS[:4]))
        return ("long", word) if manner == ("row",) else ("shelf", word)

    def term(self, deep):
        kind = self.chance.choice(("leaf", "leaf", "op", "if")) if deep else "leaf"
        if kind == "leaf":
            return self.leaf()
        many = 2 if kind == "op" else 3
        inner = tuple(self.term(deep - 1) for _ in range(many))
        return ("op", self.chance.choice("+-*<=")) + inner if kind == "op" else ("if",) + inner

    def deed(self):
        if not self.shelves or self.chance.random() < 0.15:
            return ("tell", self.term(2))
        word, manner, _ = self.chance.choice(self.shelves)
        if manner == ("bag",):
            return (self.chance.choice(("in", "out")), word, self.chance.choice(self.WORDS[:4]))
        if manner == ("row",):
            place = self.chance.choice((num(0), num(1), num(3), num(5), ("long", word), self.term(1)))
            if self.chance.random() < 0.5:
                return ("drop", word, place)
            return ("lay", word, place, self.chance.choice("abc"))
        return ("more" if manner == ("sum",) else "set", word, self.term(2))

    def row(self):
        return ("when", self.term(1), self.deed()) if self.chance.random() < 0.25 else self.deed()

    def program(self, hands=5, rows=25):
        """A program of so many hands at most, in which about so many rows are no joins of the first one at its end."""
        words = list(self.WORDS)
        self.chance.shuffle(words)
        self.shelves = tuple(self.shelf(word) for word in words[: self.chance.randint(0, 6)])
        self.chance.shuffle(words)
        free = words[:hands]
        first = free.pop()
        self.rows, self.held, going = {first: []}, {first: []}, [first]
        for _ in range(rows):
            hand = self.chance.choice(going)
            ready = [word for word in self.held[hand] if word not in going]
            kind = self.chance.choice(("deed", "deed", "deed", "split", "join", "end"))
            if kind == "split" and free:
                going.append(free.pop())
                self.rows[hand].append(("split", going[-1]))
                self.held[hand].append(going[-1])
                self.rows[going[-1]], self.held[going[-1]] = [], []
            elif kind == "join" and ready:
                self.join(hand, self.chance.choice(ready))
            elif kind == "end" and hand != first and self.chance.random() < 0.6:
                going.remove(hand)
            else:
                self.rows[hand].append(self.row())
        while self.held[first]:
            self.join(first, self.chance.choice(self.held[first]))
        others = [word for word in self.rows if word != first]
        self.chance.shuffle(others)
        return (self.shelves, tuple((word, tuple(self.rows[word])) for word in [first] + others))

    def retold(self, program, terms):
        """The program with one of these terms in most of its told manners."""
        shelves = []
        for word, manner, begin in program[0]:
            if manner[0] == "told" and self.chance.random() < 0.7:
                manner = manner[:2] + (self.chance.choice(terms),)
            shelves.append((word, manner, begin))
        return (tuple(shelves), program[1])

    def join(self, hand, other):
        self.rows[hand].append(("join", other))
        self.held[hand].remove(other)
        self.held[hand].extend(self.held[other])


def second_stretches(program):
    """The stretches by another way: a cut ahead of the first row, at each split and join, and behind the last row."""
    told = []
    for word, rows in program[1]:
        cuts = [-1] + [k for k, row in enumerate(rows) if row[0] in ("split", "join")] + [len(rows)]
        told += [(word, one + 1, other) for one, other in zip(cuts, cuts[1:])]
    return told


def second_ahead(program):
    """All pairs of which the first is ahead of the second, by one more step until there are no more."""
    cut = second_stretches(program)
    rows_of = dict(program[1])
    pairs = set()
    for one, (hand, _, last) in enumerate(cut):
        for other, (also, first, _) in enumerate(cut):
            if hand == also and first == last + 1:
                pairs.add((one, other))
            if last < len(rows_of[hand]) and rows_of[hand][last] == ("split", also) and first == 0:
                pairs.add((one, other))
            if last == len(rows_of[hand]) and first > 0 and rows_of[also][first - 1] == ("join", hand):
                pairs.add((one, other))
    while True:
        more = {(one, far) for one, near in pairs for also, far in pairs if near == also} - pairs
        if not more:
            return pairs
        pairs |= more


def second_orders(program):
    """All orders, in order, by another way: behind each begin each stretch that waits for no other."""
    pairs = second_ahead(program)
    many = len(second_stretches(program))

    def begun_with(order):
        if len(order) == many:
            return [order]
        ready = [k for k in range(many) if k not in order and all(one in order for one, other in pairs if other == k)]
        return [whole for k in ready for whole in begun_with(order + (k,))]

    return begun_with(())


def second_value(term, value):
    """What a term comes to by another way, `value` telling the value of a shelf, or of was, mine and yours."""
    kind = term[0]
    if kind == "num":
        return term[1]
    if kind in ("was", "mine", "yours", "shelf"):
        return value(term[-1])
    if kind == "many":
        return dict(value(term[1])).get(term[2], 0) & WIDE - 1
    if kind == "long":
        return len(value(term[1]))
    values = [second_value(inner, value) for inner in term if isinstance(inner, tuple)]
    if kind == "if":
        return values[2] if values[0] == 0 else values[1]
    signs = {"+": int.__add__, "-": int.__sub__, "*": int.__mul__, "<": int.__lt__, "=": int.__eq__}
    return int(signs[term[1]](*values)) & WIDE - 1


def second_made(manner, deed, before, number):
    """What a deed makes of a value by another way."""
    if deed[0] in ("set", "more"):
        number += before if deed[0] == "more" else 0
        return number % (manner[1] if manner[0] == "told" else WIDE)
    if deed[0] in ("in", "out"):
        numbers = {deed[2]: 0, **dict(before)}
        numbers[deed[2]] += 1 if deed[0] == "in" else -1
        return tuple((word, numbers[word]) for word in sorted(numbers) if numbers[word])
    words = list(before)
    if deed[0] == "lay":
        words.insert(min(number, len(words)), deed[3])
    elif number < len(words):
        words.pop(number)
    return tuple(words)


class Places:
    """What is at each place (H, n, S) by another way: asked backwards, shelf by shelf, without any run."""

    def __init__(self, program):
        self.shelves = {word: (manner, begin) for word, manner, begin in program[0]}
        self.rows = dict(program[1])
        self.first = program[1][0][0]
        self.splits = {}
        for word, rows in program[1]:
            self.splits.update({row[1]: (word, k) for k, row in enumerate(rows) if row[0] == "split"})
        self.lines = {}

    def asked(self, term):
        """The shelves that a term asks for."""
        if term[0] in ("shelf", "many", "long"):
            return {term[1]}
        return set().union(*(self.asked(inner) for inner in term if isinstance(inner, tuple)))

    def value(self, H, n, term):
        """What a term comes to there, or None where a shelf that it asks for has no value."""
        if any(self.line(H, n, S) is None for S in self.asked(term)):
            return None
        return second_value(term, lambda S: self.line(H, n, S)[0])

    def line(self, H, n, S):
        """(value, wrote), or None where a row that it rests on clashes."""
        if (H, n, S) not in self.lines:
            self.lines[H, n, S] = self.found(H, n, S)
        return self.lines[H, n, S]

    def found(self, H, n, S):
        manner, begin = self.shelves[S]
        if n == 0:
            if H == self.first:
                return (begin, False)
            line = self.line(*self.splits[H], S)
            return line and (line[0], False)
        before = self.line(H, n - 1, S)
        row = self.rows[H][n - 1]
        if row[0] == "join":
            yours = self.line(row[1], len(self.rows[row[1]]), S)
            was = self.line(*self.splits[row[1]], S)
            if None in (before, yours, was):
                return None
            value = joined(manner, was[0], before[0], yours[0], yours[1])
            return None if value is None else (value, before[1] or yours[1])
        deed = row[2] if row[0] == "when" else row
        if deed[0] in ("split", "tell") or deed[1] != S:
            return before
        if row[0] == "when":
            guard = self.value(H, n - 1, row[1])
            if not guard:
                return before if guard == 0 else None
        number = 0 if deed[0] in ("in", "out") else self.value(H, n - 1, deed[2])
        if number is None or (before is None and deed[0] != "set"):
            return None
        return (second_made(manner, deed, before and before[0], number), True)

    def rests(self, H, n, S):
        """The places that a place rests on, each once; None where a guard has no value."""
        if n == 0:
            return [] if H == self.first else [(*self.splits[H], S)]
        row = self.rows[H][n - 1]
        if row[0] == "join":
            return [(H, n - 1, S), (row[1], len(self.rows[row[1]]), S), (*self.splits[row[1]], S)]
        deed = row[2] if row[0] == "when" else row
        if deed[0] in ("split", "tell") or deed[1] != S:
            return [(H, n - 1, S)]
        shelves = set()
        if row[0] == "when":
            shelves = self.asked(row[1])
            guard = self.value(H, n - 1, row[1])
            if guard is None:
                return None
            if guard == 0:
                return [(H, n - 1, T) for T in sorted(shelves | {S})]
        shelves = shelves | (set() if deed[0] in ("in", "out") else self.asked(deed[2]))
        return [(H, n - 1, T) for T in sorted(shelves | (set() if deed[0] == "set" else {S}))]

    def standing(self, H, n):
        """A hand's house, what it told and what it wrote when it did n rows."""
        lines = [self.line(H, n, S) for S in self.shelves]
        told = []
        for k, row in enumerate(self.rows[H][:n]):
            guard = self.value(H, k, row[1]) if row[0] == "when" else 1
            deed = row[2] if row[0] == "when" else row
            if deed[0] == "tell" and guard:
                told.append(self.value(H, k, deed[1]))
        return (tuple(line[0] for line in lines), told, [S for S, line in zip(self.shelves, lines) if line[1]])

    def clash(self, H, n):
        """The first shelf that clashes where a hand joins another by its row n, or None."""
        return next((S for S in self.shelves if self.line(H, n + 1, S) is None), None)
