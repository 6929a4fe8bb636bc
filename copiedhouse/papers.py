"""Papers, whose lines tell where values come from, and whether they are right."""

from copiedhouse.deeds import done
from copiedhouse.errors import NoPaper
from copiedhouse.forms import asked_shelves, deed_of, term_of
from copiedhouse.lists import hand_named, is_deed_on, shelf_named, shelf_place, split_at
from copiedhouse.terms import value_of
from copiedhouse.triples import joined


# `lines` is, here and below, a dict from places (H, n, S) to what their lines tell, (value, wrote).
def check_paper(program, paper):
    lines = {}
    for at, line in enumerate(paper):
        if not is_right(program, lines, line):
            raise NoPaper(at)
        lines.setdefault(line[:3], line[3:])
    return True


def is_right(program, lines, line):
    place = line[:3]
    if not is_place(program, place):
        return False
    if not all([rested in lines for rested in rests_on(program, lines, place)]):
        return False
    told = due(program, lines, place)
    return told[0] is not None and is_same(line[3:], told)


def is_place(program, place):
    rows_of = dict(program[1])
    if place[0] not in rows_of or isinstance(place[1], bool):
        return False
    if place[1] < 0 or place[1] > len(rows_of[place[0]]):
        return False
    return place[2] in [shelf[0] for shelf in program[0]]


# To Python True is 1 and False is 0, but a truth is no whole number.
def is_same(one, other):
    if isinstance(one, tuple) and isinstance(other, tuple):
        return len(one) == len(other) and all([is_same(mine, yours) for mine, yours in zip(one, other)])
    return isinstance(one, bool) == isinstance(other, bool) and one == other


# The places that a place rests on. Beyond a guard's shelves they hang on whether it is 0: where not all of these
# shelves have their lines, they alone are told.
def rests_on(program, lines, place):
    hand = hand_named(program, place[0])
    if place[1] == 0:
        return split_places(program, place[0], place[2])
    before = (place[0], place[1] - 1, place[2])
    row = hand[1][place[1] - 1]
    if row[0] == "join":
        end = (row[1], len(hand_named(program, row[1])[1]), place[2])
        return (before, end) + split_places(program, row[1], place[2])
    if not is_deed_on(row, place[2]):
        return (before,)
    if row[0] != "when":
        return places_of_deed(row, before)
    guard = asked_places(row[1], before)
    if not all([asked in lines for asked in guard]):
        return guard
    if value_of(program, known_house(program, lines, before), row[1]) == 0:
        return guard + (before,)
    return guard + places_of_deed(deed_of(row), before)


# Where a hand's shelf comes from at its begin: none of the first hand.
def split_places(program, H, S):
    split = split_at(program, H)
    if split is None:
        return ()
    return (split + (S,),)


def places_of_deed(deed, before):
    term = term_of(deed)
    asked = asked_places(term, before) if term is not None else ()
    if deed[0] == "set":
        return asked
    return asked + (before,)


def asked_places(term, before):
    return tuple([(before[0], before[1], shelf) for shelf in asked_shelves(term)])


# The house where a place is, as far as lines tell it; a value of which there is no line is not asked for.
def known_house(program, lines, place):
    values = []
    for shelf in program[0]:
        line = lines.get((place[0], place[1], shelf[0]))
        values.append(line[0] if line is not None else None)
    return tuple(values)


# What a place's line is to tell, by the lines of all places that it rests on; the value is None where a row clashes.
def due(program, lines, place):
    if place[1] == 0:
        return due_at_begin(program, lines, place)
    before = (place[0], place[1] - 1, place[2])
    row = hand_named(program, place[0])[1][place[1] - 1]
    if row[0] == "join":
        return due_of_join(program, lines, place)
    if not is_deed_on(row, place[2]):
        return lines[before]
    behind = done(program, known_house(program, lines, before), row)
    if behind[2] is None:
        return lines[before]
    return (behind[0][shelf_place(program, place[2])], True)


def due_at_begin(program, lines, place):
    rested = rests_on(program, lines, place)
    if not rested:
        return (shelf_named(program, place[2])[2], False)
    return (lines[rested[0]][0], False)


def due_of_join(program, lines, place):
    three = [lines[rested] for rested in rests_on(program, lines, place)]
    mine = three[0]
    yours = three[1]
    value = joined(shelf_named(program, place[2])[1], three[2][0], mine[0], yours[0], yours[1])
    return (value, mine[1] or yours[1])
