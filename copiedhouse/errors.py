"""The refusals of the program, one class each."""


class HouseError(ValueError):
    pass


class BadText(HouseError):
    def __init__(self, at):
        HouseError.__init__(self, f"row {at} can't stand in a program's text")
        self.at = at


class Twice(HouseError):
    def __init__(self, word):
        HouseError.__init__(self, f"{word!r} is there twice")
        self.word = word


class NoHand(HouseError):
    def __init__(self):
        HouseError.__init__(self, "there is no hand")


class NoName(HouseError):
    def __init__(self, word):
        HouseError.__init__(self, f"nothing is called {word!r}")
        self.word = word


class WrongShelf(HouseError):
    def __init__(self, word):
        HouseError.__init__(self, f"shelf {word!r} is of another manner")
        self.word = word


class NoSplit(HouseError):
    def __init__(self, word):
        HouseError.__init__(self, f"hand {word!r} is never split off")
        self.word = word


class NotHeld(HouseError):
    def __init__(self, word):
        HouseError.__init__(self, f"hand {word!r} is not held where it is joined")
        self.word = word


class Left(HouseError):
    def __init__(self, word):
        HouseError.__init__(self, f"hand {word!r} is never joined")
        self.word = word


class NoPaper(HouseError):
    def __init__(self, at):
        HouseError.__init__(self, f"line {at} of the paper is not right")
        self.at = at


class TooMany(HouseError):
    def __init__(self, most):
        HouseError.__init__(self, f"there are more orders than {most}")
        self.most = most


class NoTurn(HouseError):
    def __init__(self):
        HouseError.__init__(self, "these rows can't be exchanged")


class NoAsk(HouseError):
    def __init__(self):
        HouseError.__init__(self, "there is no such question")
