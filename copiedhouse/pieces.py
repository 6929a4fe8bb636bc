"""The words, numbers and brackets of one row of a text, taken one behind another."""

from copiedhouse.errors import BadText
from copiedhouse.words import is_number, is_word

FIGURES_AT_MOST = 10
FIGURES_IN_BAGS = 9


# A piece that doesn't fit is refused with row 0: which row of a text it is, only the reader of the text knows.
class Pieces:
    def __init__(self, text):
        # A blank more at the inside of each bracket makes a piece of the bracket; where a blank stood wrongly,
        # or none stood where one should, a piece comes of it that is neither word, number nor bracket.
        spread = text.replace("(", "( ").replace(")", " )")
        self.pieces = spread.split(" ")
        self.place = 0

    def at_end(self):
        return self.place == len(self.pieces)

    def take(self):
        if self.at_end():
            raise BadText(0)
        piece = self.pieces[self.place]
        self.place = self.place + 1
        return piece

    def take_close(self):
        if self.take() != ")":
            raise BadText(0)

    def take_end(self):
        if not self.at_end():
            raise BadText(0)

    def take_word(self):
        piece = self.take()
        if not is_word(piece):
            raise BadText(0)
        return piece

    def take_number(self, least, most):
        return number_of(self.take(), least, most)

    def take_many(self):
        piece = self.take()
        figures = piece[1:] if piece.startswith("-") else piece
        if figures == "0" or not is_number(figures, FIGURES_IN_BAGS):
            raise BadText(0)
        return int(piece)


def number_of(piece, least, most):
    # How many figures there are is looked at first, for int refuses very long texts in its own way.
    if not is_number(piece, FIGURES_AT_MOST):
        raise BadText(0)
    number = int(piece)
    if number < least or number > most:
        raise BadText(0)
    return number
