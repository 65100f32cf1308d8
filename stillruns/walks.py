"""Walks through terms, templates among them: the parts first, the first part first.

A template is a term with holes ("hole", name), each in the place of a term that is not yet known.
"""

from stillruns.errors import NoKind
from stillruns.steps import kind_by_parts, parts_of, with_parts


def walked(term, step):
    """What a step gives for a term: it is told the term, what the parts gave, and what of the terms above is begun."""
    # A list of terms begun in place of calls within calls: terms may be deeper than Python lets calls be.
    begun = [(term, parts_of(term), [])]
    result = None
    while begun:
        at, parts, given = begun[-1]
        if len(given) < len(parts):
            part = parts[len(given)]
            begun.append((part, parts_of(part), []))
            continue
        begun.pop()
        result = step(at, given, begun)
        if begun:
            begun[-1][2].append(result)
    return result


def hole_kind(holes, name):
    """The kind of a hole, and its fault or None."""
    return (holes[name], None) if name in holes else (None, "hole")


def kind_with_holes(edition, term, holes):
    """The kind of a template in an edition, by the kinds of its holes; refused with NoKind where it has none."""
    def step(at, given, begun):
        if at[0] == "hole":
            kind, fault = hole_kind(holes, at[1])
        else:
            kind, fault = kind_by_parts(edition, at, given)
        if fault is not None:
            raise NoKind([len(known) for _, _, known in begun], fault)
        return kind
    return walked(term, step)


def rebuilt(term, change):
    """A term with each of its parts, and at last itself, changed."""
    def step(at, given, begun):
        return change(with_parts(at, given))
    return walked(term, step)
