"""What terms come to: a told manner's by three numbers, any other by what it asks for."""

from copiedhouse.words import WIDE


def value_of_three(term, was, mine, yours):
    three = {"was": was, "mine": mine, "yours": yours}
    return value_by(term, lambda leaf: three[leaf[0]])


# `asked` tells what the terms that are no num, op or if come to: they alone part a told manner's terms from others.
def value_by(term, asked):
    if term[0] == "num":
        return term[1]
    if term[0] == "op":
        return value_of_op(term[1], value_by(term[2], asked), value_by(term[3], asked))
    if term[0] == "if":
        guard = value_by(term[1], asked)
        return value_by(term[2] if guard != 0 else term[3], asked)
    return asked(term)


def value_of_op(sign, one, other):
    if sign == "+":
        return (one + other) % WIDE
    if sign == "-":
        return (one - other) % WIDE
    if sign == "*":
        return one * other % WIDE
    if sign == "<":
        return 1 if one < other else 0
    return 1 if one == other else 0
