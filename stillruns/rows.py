"""Rows of editions: relations put together, numbers, and how far a number reaches."""

from stillruns.breaks import break_size, number_behind


def together(one, other):
    """Two relations put together: the pairs that have a middle in common, each once, sorted."""
    behind = {}
    for middle, last in other:
        behind.setdefault(middle, []).append(last)
    return sorted({(first, last) for first, middle in one for last in behind.get(middle, [])})


def numbers(editions):
    """The numbers of a row of editions, the first by its own number."""
    told = [tuple(editions[0].number)]
    for elder, newer in zip(editions, editions[1:]):
        told.append(number_behind(told[-1], elder, newer))
    return told


def last_of_number(editions, at):
    """The greatest place up to which no first number is greater than that of a place."""
    # A first number rises where an edition breaks a program of the one ahead, and nowhere else.
    place = at
    while place + 1 < len(editions) and break_size(editions[place], editions[place + 1]) is None:
        place += 1
    return place


def first_breaking(editions, at):
    """The first place behind a place at which some program of its own breaks, or None."""
    for place in range(at + 1, len(editions)):
        if break_size(editions[at], editions[place]) is not None:
            return place
    return None


def reach(editions, at):
    """How far the first number of an edition reaches in its row, and the first place that breaks its programs."""
    return last_of_number(editions, at), first_breaking(editions, at)
