"""Stories: orders in which all stretches, done on one house, come to what a run comes to."""

from copiedhouse.deeds import begins, done
from copiedhouse.errors import TooMany
from copiedhouse.runs import run_to_end
from copiedhouse.stretches import is_order, straight_behind, stretches


# Walks all orders in order. `waits_for` tells of each stretch how many that are straight ahead of it aren't put yet;
# `ready` are those that aren't put and wait for none.
class Orders:
    def __init__(self, program):
        self.behind = straight_behind(program)
        self.waits_for = [0 for later_ones in self.behind]
        for later_ones in self.behind:
            for later in later_ones:
                self.waits_for[later] = self.waits_for[later] + 1
        self.ready = dict([(number, True) for number, many in enumerate(self.waits_for) if many == 0])
        self.order = []
        self.fill()

    def put(self, number):
        self.order.append(number)
        self.ready.pop(number)
        for later in self.behind[number]:
            self.waits_for[later] = self.waits_for[later] - 1
            if self.waits_for[later] == 0:
                self.ready[later] = True

    def take_last(self):
        number = self.order.pop()
        for later in self.behind[number]:
            if self.waits_for[later] == 0:
                self.ready.pop(later)
            self.waits_for[later] = self.waits_for[later] + 1
        self.ready[number] = True
        return number

    def fill(self):
        while self.ready:
            self.put(min(list(self.ready)))

    # Goes to the next order; False where there is none.
    def go_on(self):
        while self.order:
            number = self.take_last()
            later = min([other for other in self.ready if other > number], default=None)
            if later is not None:
                self.put(later)
                self.fill()
                return True
        return False


def done_in(program, order):
    cut = stretches(program)
    rows_of = dict(program[1])
    house = begins(program)
    told = dict([(hand[0], []) for hand in program[1]])
    for number in order:
        stretch = cut[number]
        for row in rows_of[stretch[0]][stretch[1]:stretch[2]]:
            behind = done(program, house, row)
            house = behind[0]
            if behind[1] is not None:
                told[stretch[0]].append(behind[1])
    return (house, told)


# What a story is to come to, as done_in tells it; None where a run is broken.
def due_in_story(program):
    run = run_to_end(program)
    first = program[1][0][0]
    if run.broken(first) is not None:
        return None
    return (run.house(first), dict([(hand[0], run.told(hand[0])) for hand in program[1]]))


def is_story(program, order):
    return is_order(program, order) and done_in(program, order) == due_in_story(program)


def story(program, most):
    due = due_in_story(program)
    orders = Orders(program)
    looked_at = 0
    going = True
    while going:
        if looked_at == most:
            raise TooMany(most)
        order = tuple(orders.order)
        if done_in(program, order) == due:
            return ("story", order)
        looked_at = looked_at + 1
        going = orders.go_on()
    return ("none", looked_at)
