"""Exchanges joins that stand side by side."""

from copiedhouse.errors import HouseError, NoTurn
from copiedhouse.lists import hand_named, has_inner_deed
from copiedhouse.looker import look
from copiedhouse.rules import rule_broken


def exchanged(program, H, k):
    rows = hand_named(program, H)[1]
    if k < 0 or [row[0] for row in rows[k:k + 2]] != ["join", "join"]:
        raise NoTurn()
    turned = rows[:k] + (rows[k + 1], rows[k]) + rows[k + 2:]
    hands = [(hand[0], turned if hand[0] == H else hand[1]) for hand in program[1]]
    told = (program[0], tuple(hands))
    try:
        look(told)
    except HouseError:
        raise NoTurn() from None
    return told


def hinders(program, H, k):
    rows = hand_named(program, H)[1]
    for shelf in program[0]:
        both = [has_inner_deed(program, row[1], shelf[0]) for row in rows[k:k + 2]]
        if all(both) and not lets_turn(shelf[1]):
            return shelf[0]
    return None


def lets_turn(manner):
    if manner[0] == "told":
        return rule_broken(manner[1], manner[2], "turns") is None
    return manner[0] in ("sum", "bag")
