"""Reads terms from their texts."""

from copiedhouse.errors import BadText
from copiedhouse.pieces import Pieces, number_of
from copiedhouse.words import WIDE, is_word

OPS = ("+", "-", "*", "<", "=")
THREE = ("was", "mine", "yours")
MOST_BRACKETS = 20


def read_term(text, told):
    pieces = Pieces(text)
    term = take_term(pieces, told, 0)
    pieces.take_end()
    return term


# `around` is how many brackets stand around the term: what lies too deep is refused before it is gone into.
def take_term(pieces, told, around):
    piece = pieces.take()
    if piece != "(":
        return plain_term(piece, told)
    if around == MOST_BRACKETS:
        raise BadText(0)
    term = take_inside(pieces, told, around + 1)
    pieces.take_close()
    return term


def plain_term(piece, told):
    if told and piece in THREE:
        return (piece,)
    if not told and is_word(piece):
        return ("shelf", piece)
    return ("num", number_of(piece, 0, WIDE - 1))


def take_inside(pieces, told, around):
    head = pieces.take()
    if head in OPS:
        return ("op", head) + take_terms(pieces, told, around, 2)
    if head == "if":
        return ("if",) + take_terms(pieces, told, around, 3)
    if head == "many" and not told:
        shelf = pieces.take_word()
        return ("many", shelf, pieces.take_word())
    if head == "long" and not told:
        return ("long", pieces.take_word())
    raise BadText(0)


def take_terms(pieces, told, around, many):
    return tuple([take_term(pieces, told, around) for k in range(many)])
