"""Runs programs by any weaving of their hands' steps."""

from copiedhouse.deeds import begins, done
from copiedhouse.lists import shelves_asked_back
from copiedhouse.triples import joined


# A hand that is begun. `at_split` tells, of the shelves that are held back for its join, what they were at its split.
class Begun:
    def __init__(self, house, at_split):
        self.at_split = at_split
        self.now = house
        self.did = 0
        self.said = []
        self.written = {}
        self.fault = None

    # How far the hand came is still told when it is joined and all else is let go.
    def let_go(self):
        self.at_split = {}
        self.now = None
        self.said = None
        self.written = {}


# The steps of hands, by which runs and keepers go on. `sparing` is whether only what a join may ask for is held back,
# and hands that are joined are let go.
class Steps:
    def __init__(self, program, sparing):
        self.program = program
        self.sparing = sparing
        self.rows_of = dict(program[1])
        self.begun = {program[1][0][0]: Begun(begins(program), {})}

    def step(self, H):
        if not self.can_go_on(H):
            return False
        hand = self.begun[H]
        row = self.rows_of[H][hand.did]
        if row[0] == "join":
            self.do_join(H, row[1])
        elif row[0] == "split":
            self.do_split(hand, row[1])
        else:
            self.do_row(hand, row)
        if hand.fault is None:
            hand.did = hand.did + 1
        return True

    # A hand that is joined is held, so it is begun.
    def can_go_on(self, H):
        if H not in self.begun or self.is_over(H):
            return False
        row = self.rows_of[H][self.begun[H].did]
        return row[0] != "join" or self.is_over(row[1])

    def is_over(self, H):
        hand = self.begun[H]
        return hand.fault is not None or hand.did == len(self.rows_of[H])

    def do_row(self, hand, row):
        behind = done(self.program, hand.now, row)
        hand.now = behind[0]
        if behind[1] is not None:
            hand.said.append(behind[1])
        if behind[2] is not None:
            hand.written[behind[2]] = True

    def do_split(self, hand, H):
        at_split = dict([(shelf[0], value) for shelf, value in zip(self.program[0], hand.now)])
        if self.sparing:
            at_split = dict([(S, at_split[S]) for S in shelves_asked_back(self.program, H)])
        self.begun[H] = Begun(hand.now, at_split)

    def do_join(self, H, other_word):
        hand = self.begun[H]
        other = self.begun[other_word]
        if other.fault is not None:
            hand.fault = other.fault
            return
        house = joined_house(self.program, hand.now, other)
        clashing = [shelf[0] for shelf, value in zip(self.program[0], house) if value is None]
        if clashing:
            hand.fault = (H, hand.did, clashing[0])
            return
        hand.now = house
        hand.written.update(other.written)
        if self.sparing:
            other.let_go()

    def rows_done(self, H):
        if H not in self.begun:
            return 0
        return self.begun[H].did

    def broken(self, H):
        if H not in self.begun:
            return None
        return self.begun[H].fault

    def woven(self, hands):
        counted = 0
        for word in hands:
            if self.step(word):
                counted = counted + 1
        return counted

    # What the first hand came to, where no hand can go on.
    def first_came_to(self):
        first = self.begun[self.program[1][0][0]]
        if first.fault is not None:
            return ("broken",) + first.fault
        return ("house", first.now)


class Run(Steps):
    def __init__(self, program):
        Steps.__init__(self, program, False)

    def house(self, H):
        if H not in self.begun:
            return None
        return self.begun[H].now

    def told(self, H):
        if H not in self.begun:
            return []
        return list(self.begun[H].said)

    def wrote(self, H):
        if H not in self.begun:
            return []
        return [shelf[0] for shelf in self.program[0] if shelf[0] in self.begun[H].written]


# The values of all shelves, None in the place of each that clashes. Of a shelf that isn't held back yours is what
# it was, or its manner doesn't ask what it was.
def joined_house(program, mine, other):
    values = []
    for place, shelf in enumerate(program[0]):
        yours = other.now[place]
        was = other.at_split.get(shelf[0], yours)
        values.append(joined(shelf[1], was, mine[place], yours, shelf[0] in other.written))
    return tuple(values)


def run_to_end(program):
    run = Run(program)
    words = [hand[0] for hand in program[1]]
    going = True
    while going:
        going = run.woven(words) > 0
    return run


def end_of(program):
    return run_to_end(program).first_came_to()
