"""Runs programs and keeps of what was at splits only what a join may still ask for."""

from copiedhouse.runs import Steps


class Keeper(Steps):
    def __init__(self, program):
        Steps.__init__(self, program, True)

    def is_kept(self, H):
        return H in self.begun and self.begun[H].now is not None

    def house(self, H):
        if not self.is_kept(H):
            return None
        return self.begun[H].now

    def told(self, H):
        if not self.is_kept(H):
            return None
        return list(self.begun[H].said)

    def kept(self):
        told = []
        for hand in self.program[1]:
            told.extend([(hand[0], shelf[0]) for shelf in self.program[0] if self.was(hand[0], shelf[0]) is not None])
        return told

    def was(self, H, S):
        if H not in self.begun:
            return None
        return self.begun[H].at_split.get(S)

    def end(self):
        if any([self.can_go_on(hand[0]) for hand in self.program[1]]):
            return None
        return self.first_came_to()
