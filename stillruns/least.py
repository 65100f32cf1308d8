"""Least programs of the kinds of an edition."""

from stillruns.errors import TooGreat
from stillruns.spread import spread

LIMIT = 200


def sizes(edition):
    """The kinds that terms have that are no answer literals, with the least sizes of such terms, sorted."""
    # Within one edition a term has the same kind twice.
    told = spread(edition, edition).least_sizes()
    return sorted([(pair[0], told[pair]) for pair in told])


def least(edition, kind, *, limit=LIMIT):
    """A least program of a kind, or None; refused with TooGreat where it is greater than the limit."""
    counts = []
    while kind[0] == "answers":
        counts.append(kind[1])
        kind = kind[2]
    found = spread(edition, edition)
    told = found.least_sizes()
    pair = (kind, kind)
    if pair not in told:
        return None
    if told[pair] + len(counts) > limit:
        raise TooGreat(told[pair] + len(counts))
    term = found.terms([pair])[pair]
    for count in reversed(counts):
        term = ("answer", count, term)
    return term
