"""What breaks from an elder edition to a newer one, and the number that follows."""

from stillruns.errors import TooGreat
from stillruns.forms import term_of
from stillruns.least import LIMIT
from stillruns.outcomes import least_breaking
from stillruns.spread import spread
from stillruns.stock import Stock
from stillruns.ways import all_ways


def breaking_way(found):
    """A tuple (size, way, parts) of a least term that breaks, or None where none does.

    The parts of a least one run in both editions: one that breaks would be a lesser break itself.
    """
    told = found.least_sizes()
    stock = Stock(found.elder_judge, found.newer_judge, told)
    best = None
    for way in all_ways(found.elder, found.newer, list(told)):
        row = least_breaking(way, stock)
        if row is not None and (best is None or row[0] < best[0]):
            best = (row[0], way, row[1])
    return best


def breaking_term(found, way, parts):
    """The term of a way with these parts."""
    heads = [] if way.head is None else [way.head]
    terms = found.terms(heads + [pair for _, pair, _ in parts.values()])
    others = {}
    for name in parts:
        _, pair, count = parts[name]
        others[name] = terms[pair] if count is None else ("answer", count, terms[pair])
    return term_of(way.shape, terms.get(way.head), others)


def sorted_rows(found):
    """All pairs found with their least sizes, sorted."""
    told = found.least_sizes()
    return sorted([(pair, told[pair]) for pair in told])


def pairs(elder, newer):
    """The pairs of kinds that terms, no answer literals, have in both editions, with their least sizes, sorted."""
    return sorted_rows(spread(elder, newer))


def least_break(elder, newer, *, limit=LIMIT):
    """A least term that breaks, or None; refused with TooGreat where it is greater than the limit."""
    found = spread(elder, newer)
    best = breaking_way(found)
    if best is None:
        return None
    size, way, parts = best
    if size > limit:
        raise TooGreat(size)
    return breaking_term(found, way, parts)


def break_size(elder, newer):
    """The size of a least term that breaks, or None."""
    best = breaking_way(spread(elder, newer))
    return None if best is None else best[0]


def number_behind(number, elder, newer):
    """The number that follows a number of the elder edition, by what breaks either way about."""
    first, second, third = number
    if break_size(elder, newer) is not None:
        return first + 1, 0, 0
    if break_size(newer, elder) is not None:
        return first, second + 1, 0
    return first, second, third + 1


def next_number(elder, newer):
    """The number of the newer edition, by the elder's own number."""
    return number_behind(elder.number, elder, newer)
