"""What stands in a program: its shelves and hands, who splits and joins whom, and where deeds are."""

from copiedhouse.forms import deed_of, shelf_of


def first_called(tuples, word):
    return [one for one in tuples if one[0] == word][0]


def shelf_named(program, S):
    return first_called(program[0], S)


# A house has its values in order of the shelves.
def shelf_place(program, S):
    return [shelf[0] for shelf in program[0]].index(S)


def hand_named(program, H):
    return first_called(program[1], H)


def split_at(program, H):
    for hand in program[1]:
        for number, row in enumerate(hand[1]):
            if row == ("split", H):
                return (hand[0], number)
    return None


# From each hand's word to the hands that its splits, or its joins, name.
def named_by_hands(program, kind):
    named = {}
    for hand in program[1]:
        named[hand[0]] = [row[1] for row in hand[1] if row[0] == kind]
    return named


# The hands that wait are kept in a list, the next one last: a text may write more hands, each split by the
# one before, than calls may stand within one another.
def in_split_order(program):
    splits = named_by_hands(program, "split")
    order = []
    waiting = [hand[0] for hand in program[1][:1]]
    while waiting:
        word = waiting.pop()
        order.append(word)
        waiting.extend(list(reversed(splits[word])))
    return tuple(order)


def inner_hands(program, H):
    joins = named_by_hands(program, "join")
    inner = {H: True}
    waiting = [H]
    while waiting:
        word = waiting.pop()
        for joined in joins[word]:
            if joined not in inner:
                inner[joined] = True
                waiting.append(joined)
    return (H,) + tuple([hand[0] for hand in program[1] if hand[0] in inner and hand[0] != H])


def deeds_on(program, H, S):
    rows = hand_named(program, H)[1]
    return [number for number, row in enumerate(rows) if is_deed_on(row, S)]


def is_deed_on(row, S):
    deed = deed_of(row)
    return deed is not None and shelf_of(deed) == S
