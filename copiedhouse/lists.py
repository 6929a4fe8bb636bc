"""What stands in a program: its shelves and hands, who splits and joins whom, and where deeds are."""

from copiedhouse.forms import deed_of, shelf_of


def first_called(tuples, word):
    return [one for one in tuples if one[0] == word][0]


def shelf_named(program, S):
    return first_called(program[0], S)


# A house has its values in order of the shelves.
def shelf_place(program, S):
    return [shelf[0] for shelf in program[0]].index(S)


def hand_named(program, H):
    return first_called(program[1], H)


def split_at(program, H):
    for hand in program[1]:
        for number, row in enumerate(hand[1]):
            if row == ("split", H):
                return (hand[0], number)
    return None


# From each hand's word to the hands that its splits, or its joins, name.
def named_by_hands(program, kind):
    named = {}
    for hand in program[1]:
        named[hand[0]] = [row[1] for row in hand[1] if row[0] == kind]
    return named


# The hands that wait are kept in a list, the next one last: a text may write more hands, each split by the
# one before, than calls may stand within one another.
def in_split_order(program):
    splits = named_by_hands(program, "split")
    order = []
    waiting = [hand[0] for hand in program[1][:1]]
    while waiting:
        word = waiting.pop()
        order.append(word)
        waiting.extend(list(reversed(splits[word])))
    return tuple(order)


# All that is come to from one by one link or more, as the keys of a dict.
def come_to(links, one):
    met = {}
    waiting = [one]
    while waiting:
        last = waiting.pop()
        for other in links[last]:
            if other not in met:
                met[other] = True
                waiting.append(other)
    return met


def inner_hands(program, H):
    inner = come_to(named_by_hands(program, "join"), H)
    return (H,) + tuple([hand[0] for hand in program[1] if hand[0] in inner and hand[0] != H])


def deeds_on(program, H, S):
    rows = hand_named(program, H)[1]
    return [number for number, row in enumerate(rows) if is_deed_on(row, S)]


def is_deed_on(row, S):
    deed = deed_of(row)
    return deed is not None and shelf_of(deed) == S


# Whether a hand, or one that it joins, and so on, has a deed on the shelf.
def has_inner_deed(program, H, S):
    return any([deeds_on(program, inner, S) for inner in inner_hands(program, H)])


# The shelves of which, by the rows' forms, the join of a hand may ask what they were at its split. The manner last
# never asks, and others don't where nothing can have become other.
def shelves_asked_back(program, H):
    asking = [shelf[0] for shelf in program[0] if shelf[1][0] != "last"]
    return [S for S in asking if has_inner_deed(program, H, S)]
