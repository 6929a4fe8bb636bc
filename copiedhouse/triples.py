"""Joins three values of a shelf: as it was, mine and yours."""

from copiedhouse.bags import bags_added, bags_less
from copiedhouse.told import value_of_three
from copiedhouse.words import WIDE


def joined(manner, was, mine, yours, wrote):
    if manner[0] == "sum":
        return (mine + yours - was) % WIDE
    if manner[0] == "bag":
        return bags_less(bags_added(mine, yours), was)
    if manner[0] == "row":
        return rows_by_three(was, mine, yours)
    if not wrote:
        return mine
    if manner[0] == "told":
        return value_of_three(manner[2], was, mine, yours) % manner[1]
    return yours


def rows_by_three(was, mine, yours):
    if yours == was:
        return mine
    if mine == was or mine == yours:
        return yours
    my_change = row_change(was, mine)
    your_change = row_change(was, yours)
    ahead = my_change[1] <= your_change[0]
    behind = your_change[1] <= my_change[0]
    # Both are so where both put words in at the same place: which of them go first nobody can tell.
    if ahead == behind:
        return None
    if ahead:
        return with_changes(was, my_change, your_change)
    return with_changes(was, your_change, my_change)


def row_change(was, other):
    start = many_alike(was, other)
    # The ends begin behind the start, so that no word is counted as alike at both.
    end = many_alike(tuple(reversed(was[start:])), tuple(reversed(other[start:])))
    return (start, len(was) - end, other[start:len(other) - end])


def many_alike(one, other):
    alike = 0
    while alike < min(len(one), len(other)) and one[alike] == other[alike]:
        alike = alike + 1
    return alike


def with_changes(was, first, second):
    return was[:first[0]] + first[2] + was[first[1]:second[0]] + second[2] + was[second[1]:]
