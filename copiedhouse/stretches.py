"""Stretches, the rows between splits and joins, and the orders in which they may be done."""

from copiedhouse.forms import deed_of
from copiedhouse.lists import come_to


def stretches(program):
    told = []
    for hand in program[1]:
        first = 0
        for number, row in enumerate(hand[1]):
            if deed_of(row) is None:
                told.append((hand[0], first, number))
                first = number + 1
        told.append((hand[0], first, len(hand[1])))
    return told


# Of each stretch, by its number, the stretches that it is ahead of straight, by one step.
def straight_behind(program):
    rows_of = dict(program[1])
    cut = stretches(program)
    first_of = {}
    last_of = {}
    for number, stretch in enumerate(cut):
        first_of.setdefault(stretch[0], number)
        last_of[stretch[0]] = number
    behind = [[] for stretch in cut]
    for number, stretch in enumerate(cut):
        if number == last_of[stretch[0]]:
            continue
        behind[number].append(number + 1)
        row = rows_of[stretch[0]][stretch[2]]
        if row[0] == "split":
            behind[number].append(first_of[row[1]])
        else:
            behind[last_of[row[1]]].append(number + 1)
    return behind


def ahead(program, one, other):
    return other in come_to(straight_behind(program), one)


def is_order(program, order):
    behind = straight_behind(program)
    if sorted(order) != list(range(len(behind))):
        return False
    place_of = dict([(number, place) for place, number in enumerate(order)])
    for number, later_ones in enumerate(behind):
        if any([place_of[later] < place_of[number] for later in later_ones]):
            return False
    return True
