"""What terms come to by a house."""

from copiedhouse.bags import many_of
from copiedhouse.lists import shelf_place
from copiedhouse.told import value_by
from copiedhouse.words import WIDE


def value_of(program, house, term):
    return value_by(term, lambda leaf: value_asked(program, house, leaf))


def value_asked(program, house, leaf):
    value = house[shelf_place(program, leaf[1])]
    if leaf[0] == "many":
        return many_of(value, leaf[2]) % WIDE
    if leaf[0] == "long":
        return len(value)
    return value
