"""Reads programs from their texts."""

from copiedhouse.errors import BadText
from copiedhouse.pieces import Pieces
from copiedhouse.termreader import take_term
from copiedhouse.words import WIDE


def read(text):
    shelves = []
    hands = []
    for at, line in enumerate(lines_of(text)):
        try:
            read_line(line, shelves, hands)
        except BadText:
            raise BadText(at) from None
    return (tuple(shelves), tuple([(word, tuple(rows)) for word, rows in hands]))


# The text without signs has no row at all, not one empty row.
def lines_of(text):
    if text == "":
        return []
    return text.split("\n")


# A hand is kept as its word and the list of its rows, to which the next lines add.
def read_line(line, shelves, hands):
    pieces = Pieces(line)
    kind = pieces.take()
    if kind == "shelf":
        if hands:
            raise BadText(0)
        shelves.append(take_shelf(pieces))
    elif kind == "hand":
        hands.append((pieces.take_word(), []))
    else:
        if not hands:
            raise BadText(0)
        hands[-1][1].append(take_row(kind, pieces))
    pieces.take_end()


def take_shelf(pieces):
    word = pieces.take_word()
    manner = pieces.take()
    if manner == "told":
        return take_told(word, pieces)
    if manner in ("last", "sum"):
        return (word, (manner,), pieces.take_number(0, WIDE - 1))
    if manner == "bag":
        return (word, (manner,), take_bag(pieces))
    if manner == "row":
        return (word, (manner,), take_words(pieces))
    raise BadText(0)


def take_told(word, pieces):
    n = pieces.take_number(2, 5)
    begin = pieces.take_number(0, n - 1)
    return (word, ("told", n, take_term(pieces, True, 0)), begin)


def take_bag(pieces):
    bag = []
    while not pieces.at_end():
        word = pieces.take_word()
        if bag and word <= bag[-1][0]:
            raise BadText(0)
        bag.append((word, pieces.take_many()))
    return tuple(bag)


def take_words(pieces):
    words = []
    while not pieces.at_end():
        words.append(pieces.take_word())
    return tuple(words)


def take_row(kind, pieces):
    if kind == "when":
        guard = take_term(pieces, False, 0)
        return ("when", guard, take_deed(pieces.take(), pieces))
    if kind in ("split", "join"):
        return (kind, pieces.take_word())
    return take_deed(kind, pieces)


def take_deed(kind, pieces):
    if kind == "tell":
        return ("tell", take_term(pieces, False, 0))
    if kind in ("in", "out"):
        shelf = pieces.take_word()
        return (kind, shelf, pieces.take_word())
    if kind in ("set", "more", "drop"):
        shelf = pieces.take_word()
        return (kind, shelf, take_term(pieces, False, 0))
    if kind == "lay":
        shelf = pieces.take_word()
        place = take_term(pieces, False, 0)
        return ("lay", shelf, place, pieces.take_word())
    raise BadText(0)
