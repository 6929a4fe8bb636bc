"""Where stretches cross, and which programs are calm."""

from copiedhouse.forms import asked_shelves, deed_of, shelf_of, term_of
from copiedhouse.lists import come_to, deeds_on
from copiedhouse.rules import rule_broken
from copiedhouse.stretches import straight_behind, stretches


def crossings(program):
    uses = uses_of_stretches(program)
    straight = straight_behind(program)
    behind = [come_to(straight, number) for number in range(len(straight))]
    told = []
    for one in range(len(uses)):
        for other in range(one + 1, len(uses)):
            if other not in behind[one] and one not in behind[other]:
                crossed = [shelf[0] for shelf in program[0] if is_crossed(shelf, uses[one], uses[other])]
                told.extend([(one, other, S) for S in crossed])
    return told


# Of each stretch two dicts, whose keys are the shelves that its deeds are on, and those that its terms ask for.
def uses_of_stretches(program):
    rows_of = dict(program[1])
    uses = []
    for stretch in stretches(program):
        rows = rows_of[stretch[0]][stretch[1]:stretch[2]]
        deeds = dict([(shelf_of(deed_of(row)), True) for row in rows])
        asked = {}
        for row in rows:
            asked.update(dict([(S, True) for S in asked_by(row)]))
        uses.append((deeds, asked))
    return uses


def asked_by(row):
    guard = asked_shelves(row[1]) if row[0] == "when" else ()
    term = term_of(deed_of(row))
    return guard + (asked_shelves(term) if term is not None else ())


def is_crossed(shelf, one, other):
    S = shelf[0]
    if S in one[0] and S in other[0]:
        # Sums and bags that are only added to come to the same, whichever goes first.
        return shelf[1][0] not in ("sum", "bag") or S in one[1] or S in other[1]
    return (S in one[0] and S in other[1]) or (S in other[0] and S in one[1])


def is_calm(program):
    if crossings(program):
        return False
    return all([is_calm_told(program, shelf) for shelf in program[0] if shelf[1][0] == "told"])


# A told shelf on which the first hand alone has deeds is never joined by its term.
def is_calm_told(program, shelf):
    if not any([deeds_on(program, hand[0], shelf[0]) for hand in program[1][1:]]):
        return True
    return rule_broken(shelf[1][1], shelf[1][2], "yours") is None
