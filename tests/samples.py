"""Programs, texts and terms that several tests ask for, and what tells their kinds."""

WIDE = 4294967296


def only_plain(value):
    """Whether a value is made of tuples, texts and whole numbers alone, none of them a truth."""
    if type(value) is tuple:
        return all(only_plain(inner) for inner in value)
    return type(value) in (str, int)


def num(k):
    return ("num", k)


def shelf(word):
    return ("shelf", word)


def op(sign, one, other):
    return ("op", sign, one, other)


def nested(deep, inmost=("num", 1)):
    """A term of ops, each within the one before, on the left and the right by turns."""
    term = inmost
    for k in range(deep):
        term = op("+", term, num(k)) if k % 2 else op("-", num(k), term)
    return term


def deeds_of_all_sorts(term):
    return (
        ("set", "s", term),
        ("more", "s", term),
        ("in", "s", "w"),
        ("out", "s", "w"),
        ("lay", "s", term, "w"),
        ("drop", "s", term),
        ("tell", term),
    )
