"""The rules that a told manner's term may keep."""

from copiedhouse.told import value_of_three


def rule_broken(n, term, rule):
    values = {}
    for was, mine, yours in tuples_below(n, 3):
        values[(was, mine, yours)] = value_of_three(term, was, mine, yours) % n
    return min(all_that_break(n, rule, lambda w, m, y: values[(w, m, y)]), default=None)


# All tuples of so many numbers below n, as Python sorts them.
def tuples_below(n, many):
    tuples = [()]
    for place in range(many):
        longer = []
        for begin in tuples:
            longer.extend([begin + (number,) for number in range(n)])
        tuples = longer
    return tuples


# `f` is what the term comes to for was, mine and yours, the rest by n.
def all_that_break(n, rule, f):
    if rule == "yours":
        return [(w, y) for w, y in tuples_below(n, 2) if f(w, w, y) != y]
    if rule == "mine":
        return [(w, m) for w, m in tuples_below(n, 2) if f(w, m, w) != m]
    if rule == "either":
        return [(w, m, y) for w, m, y in tuples_below(n, 3) if f(w, m, y) != f(w, y, m)]
    return [(v, w, m, a, b) for v, w, m, a, b in tuples_below(n, 5) if f(v, f(w, m, a), b) != f(w, f(v, m, b), a)]
