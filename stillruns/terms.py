"""Terms: programs over the doors and kinds of an edition."""

from stillruns.errors import NoKind
from stillruns.steps import parts_of
from stillruns.walks import kind_with_holes


def size(term):
    """The size of a term: 1 and the sizes of its parts together."""
    count = 0
    waiting = [term]
    while waiting:
        each = waiting.pop()
        count += 1
        waiting.extend(parts_of(each))
    return count


def kind_of(edition, term):
    """The kind of a term in an edition; refused with NoKind where it has none."""
    return kind_with_holes(edition, term, {})


def runs(edition, term):
    """Whether a term runs in an edition."""
    try:
        kind_of(edition, term)
    except NoKind:
        return False
    return True


def breaks(elder, newer, term):
    """Whether a term runs in the elder edition and not in the newer one."""
    return runs(elder, term) and not runs(newer, term)
