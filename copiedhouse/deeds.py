"""Does deeds on a house."""

from copiedhouse.bags import bag_with
from copiedhouse.lists import shelf_named, shelf_place
from copiedhouse.terms import value_of
from copiedhouse.words import WIDE


def begins(program):
    return tuple([shelf[2] for shelf in program[0]])


def done(program, house, row):
    if row[0] == "when":
        if value_of(program, house, row[1]) == 0:
            return (house, None, None)
        return done(program, house, row[2])
    if row[0] == "tell":
        return (house, value_of(program, house, row[1]), None)
    place = shelf_place(program, row[1])
    made = made_by(program, house, row)
    return (house[:place] + (made,) + house[place + 1:], None, row[1])


# The value that a deed makes of its shelf's.
def made_by(program, house, deed):
    value = house[shelf_place(program, deed[1])]
    if deed[0] == "in":
        return bag_with(value, deed[2], 1)
    if deed[0] == "out":
        return bag_with(value, deed[2], -1)
    number = value_of(program, house, deed[2])
    if deed[0] == "set":
        return number_set(shelf_named(program, deed[1])[1], number)
    if deed[0] == "more":
        return (value + number) % WIDE
    # A slice ends where the row does: beyond that a word is laid at the end, and none is dropped.
    if deed[0] == "lay":
        return value[:number] + (deed[3],) + value[number:]
    return value[:number] + value[number + 1:]


def number_set(manner, number):
    if manner[0] == "told":
        return number % manner[1]
    return number
