"""Terms: programs over the doors and kinds of an edition."""

from stillruns.errors import NoKind
from stillruns.steps import kind_by_parts, parts_of


def size(term):
    """The size of a term: 1 and the sizes of its parts together."""
    count = 0
    waiting = [term]
    while waiting:
        each = waiting.pop()
        count += 1
        waiting.extend(parts_of(each))
    return count


def kind_of(edition, term):
    """The kind of a term in an edition; refused with NoKind where it has none."""
    # A list of terms begun in place of calls within calls: terms may be deeper than Python lets calls be.
    begun = [(term, parts_of(term), [])]
    kind = None
    while begun:
        at, parts, given = begun[-1]
        if len(given) < len(parts):
            part = parts[len(given)]
            begun.append((part, parts_of(part), []))
            continue
        kind, fault = kind_by_parts(edition, at, given)
        begun.pop()
        if fault is not None:
            raise NoKind([len(known) for _, _, known in begun], fault)
        if begun:
            begun[-1][2].append(kind)
    return kind


def runs(edition, term):
    """Whether a term runs in an edition."""
    try:
        kind_of(edition, term)
    except NoKind:
        return False
    return True


def breaks(elder, newer, term):
    """Whether a term runs in the elder edition and not in the newer one."""
    return runs(elder, term) and not runs(newer, term)
