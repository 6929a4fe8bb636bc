"""Tells papers, what they go over, and programs that are spared all else."""

from copiedhouse.forms import deed_of, shelf_of
from copiedhouse.papers import due, rests_on
from copiedhouse.runs import run_to_end


def paper_of(program, H, n, S):
    run = run_to_end(program)
    if run.house(H) is None or run.rows_done(H) < n:
        return None
    lines = lines_up_to(program, (H, n, S))
    return tuple([place + told for place, told in lines.items()])


# The last of the places that wait goes on waiting until the lines of all places that it rests on are there; so a
# line comes behind them, and only such come as another one rests on.
def lines_up_to(program, place):
    lines = {}
    waiting = [place]
    while waiting:
        last = waiting[-1]
        missing = [rested for rested in rests_on(program, lines, last) if rested not in lines]
        if missing:
            waiting.extend(missing)
        else:
            waiting.pop()
            lines.setdefault(last, due(program, lines, last))
    return lines


def gone_over(program, paper):
    places = {}
    for line in paper:
        places[line[:3]] = True
        # A join is gone over by any shelf.
        places[line[:2]] = True
    rows = []
    for hand in program[1]:
        for number, row in enumerate(hand[1]):
            if is_gone_over(places, (hand[0], number + 1), row):
                rows.append((hand[0], number))
    return rows


# `behind` is (H, n) behind the row.
def is_gone_over(places, behind, row):
    if row[0] == "join":
        return behind in places
    deed = deed_of(row)
    return deed is not None and behind + (shelf_of(deed),) in places


def spared(program, paper):
    over = dict([(place, True) for place in gone_over(program, paper)])
    hands = []
    for hand in program[1]:
        rows = [row if (hand[0], number) in over else spared_row(row) for number, row in enumerate(hand[1])]
        hands.append((hand[0], tuple(rows)))
    return (program[0], tuple(hands))


# Splits and joins stay, whatever a paper goes over.
def spared_row(row):
    if deed_of(row) is None:
        return row
    return ("tell", ("num", 0))
