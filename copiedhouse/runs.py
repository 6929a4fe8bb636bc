"""Runs programs by any weaving of their hands' steps."""

from copiedhouse.deeds import begins, done
from copiedhouse.triples import joined


# A hand that is begun.
class Begun:
    def __init__(self, house):
        self.at_split = house
        self.now = house
        self.did = 0
        self.said = []
        self.written = {}
        self.fault = None


class Run:
    def __init__(self, program):
        self.program = program
        self.rows_of = dict(program[1])
        self.begun = {program[1][0][0]: Begun(begins(program))}

    def step(self, H):
        if self.is_over(H):
            return False
        hand = self.begun[H]
        row = self.rows_of[H][hand.did]
        if row[0] == "join":
            return self.step_of_join(H, row[1])
        if row[0] == "split":
            self.begun[row[1]] = Begun(hand.now)
        else:
            self.do_row(hand, row)
        hand.did = hand.did + 1
        return True

    # Where a step of the hand does nothing, but for a join that waits.
    def is_over(self, H):
        if H not in self.begun:
            return True
        hand = self.begun[H]
        return hand.fault is not None or hand.did == len(self.rows_of[H])

    def do_row(self, hand, row):
        behind = done(self.program, hand.now, row)
        hand.now = behind[0]
        if behind[1] is not None:
            hand.said.append(behind[1])
        if behind[2] is not None:
            hand.written[behind[2]] = True

    # A hand that is joined is held, so it is begun, and over where it is at its end or broken.
    def step_of_join(self, H, other_word):
        hand = self.begun[H]
        other = self.begun[other_word]
        if not self.is_over(other_word):
            return False
        if other.fault is not None:
            hand.fault = other.fault
            return True
        house = joined_house(self.program, hand.now, other)
        clashing = [shelf[0] for shelf, value in zip(self.program[0], house) if value is None]
        if clashing:
            hand.fault = (H, hand.did, clashing[0])
            return True
        hand.now = house
        hand.written.update(other.written)
        hand.did = hand.did + 1
        return True

    def house(self, H):
        if H not in self.begun:
            return None
        return self.begun[H].now

    def rows_done(self, H):
        if H not in self.begun:
            return 0
        return self.begun[H].did

    def told(self, H):
        if H not in self.begun:
            return []
        return list(self.begun[H].said)

    def wrote(self, H):
        if H not in self.begun:
            return []
        return [shelf[0] for shelf in self.program[0] if shelf[0] in self.begun[H].written]

    def broken(self, H):
        if H not in self.begun:
            return None
        return self.begun[H].fault

    def woven(self, hands):
        counted = 0
        for word in hands:
            if self.step(word):
                counted = counted + 1
        return counted


# The values of all shelves, None in the place of each that clashes.
def joined_house(program, mine, other):
    values = []
    for place, shelf in enumerate(program[0]):
        wrote = shelf[0] in other.written
        values.append(joined(shelf[1], other.at_split[place], mine[place], other.now[place], wrote))
    return tuple(values)


def run_to_end(program):
    run = Run(program)
    words = [hand[0] for hand in program[1]]
    going = True
    while going:
        going = run.woven(words) > 0
    return run


def end_of(program):
    run = run_to_end(program)
    first = program[1][0][0]
    if run.broken(first) is not None:
        return ("broken",) + run.broken(first)
    return ("house", run.house(first))
