"""Bags: tuples of words, rising, each with how many there are of it, none with 0."""


def many_of(bag, word):
    return dict(bag).get(word, 0)


def bag_with(bag, word, many):
    return bags_added(bag, ((word, many),))


def bags_added(one, other):
    numbers = dict(one)
    for word, many in other:
        numbers[word] = numbers.get(word, 0) + many
    return tuple([(word, many) for word, many in sorted(numbers.items()) if many != 0])


def bags_less(one, other):
    return bags_added(one, tuple([(word, -many) for word, many in other]))
