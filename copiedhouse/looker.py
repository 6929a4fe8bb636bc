"""Looks at programs: which hands a hand holds, and whether a program is let by."""

from copiedhouse.errors import Left, NoHand, NoName, NoSplit, NotHeld, Twice, WrongShelf
from copiedhouse.forms import deed_of, shelf_of, term_of, terms_in
from copiedhouse.lists import hand_named, in_split_order

MANNERS_OF_DEEDS = {
    "set": ("last", "told"),
    "more": ("sum",),
    "in": ("bag",),
    "out": ("bag",),
    "lay": ("row",),
    "drop": ("row",),
}
MANNERS_OF_TERMS = {
    "shelf": ("last", "sum", "told"),
    "many": ("bag",),
    "long": ("row",),
}


def held_at(program, H, n):
    rows = hand_named(program, H)[1]
    return in_order_of_hands(program, held_behind(rows[:n], held_at_ends(program)))


def look(program):
    look_for_twice(program[0])
    if not program[1]:
        raise NoHand()
    look_for_twice(program[1])
    look_at_rows(program)
    look_at_splits(program)
    look_at_joins(program)
    return True


def look_for_twice(tuples):
    met = {}
    for one in tuples:
        if one[0] in met:
            raise Twice(one[0])
        met[one[0]] = True


# `manners` tells of each shelf its manner's word, `taken` of each hand whether it can't be split any more.
def look_at_rows(program):
    manners = dict([(shelf[0], shelf[1][0]) for shelf in program[0]])
    taken = dict([(hand[0], False) for hand in program[1]])
    taken[program[1][0][0]] = True
    for hand in program[1]:
        for row in hand[1]:
            if row[0] in ("split", "join"):
                look_at_named_hand(row, taken)
            else:
                look_at_doing(row, manners)


def look_at_named_hand(row, taken):
    if row[1] not in taken:
        raise NoName(row[1])
    if row[0] == "split":
        if taken[row[1]]:
            raise Twice(row[1])
        taken[row[1]] = True


def look_at_doing(row, manners):
    if row[0] == "when":
        look_at_term(row[1], manners)
    deed = deed_of(row)
    if shelf_of(deed) is not None:
        look_at_shelf(shelf_of(deed), manners, MANNERS_OF_DEEDS[deed[0]])
    if term_of(deed) is not None:
        look_at_term(term_of(deed), manners)


def look_at_term(term, manners):
    if term[0] in MANNERS_OF_TERMS:
        look_at_shelf(term[1], manners, MANNERS_OF_TERMS[term[0]])
    for inner in terms_in(term):
        look_at_term(inner, manners)


def look_at_shelf(S, manners, fitting):
    if S not in manners:
        raise NoName(S)
    if manners[S] not in fitting:
        raise WrongShelf(S)


def look_at_splits(program):
    come_to = dict([(word, True) for word in in_split_order(program)])
    for hand in program[1]:
        if hand[0] not in come_to:
            raise NoSplit(hand[0])


def look_at_joins(program):
    ends = held_at_ends(program)
    left = in_order_of_hands(program, ends[program[1][0][0]])
    if left:
        raise Left(left[0])


# What each hand holds at its end. A hand holds only such hands as stand behind it in order of splitting, so,
# the last one going first, what is handed on by a join is always known.
def held_at_ends(program):
    rows_of = dict(program[1])
    ends = {}
    for word in list(reversed(in_split_order(program))):
        ends[word] = held_behind(rows_of[word], ends)
    return ends


def held_behind(rows, ends):
    held = {}
    for row in rows:
        if row[0] == "split":
            held[row[1]] = True
        if row[0] == "join":
            if row[1] not in held:
                raise NotHeld(row[1])
            held.pop(row[1])
            held.update(ends[row[1]])
    return held


def in_order_of_hands(program, held):
    return tuple([hand[0] for hand in program[1] if hand[0] in held])
