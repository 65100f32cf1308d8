"""Bridges: doors of an elder edition, made of terms of a newer one, and programs unfolded through them."""

from stillruns.editions import Edition, fits
from stillruns.errors import NoBridge, NoEdition, NoKind
from stillruns.walks import kind_with_holes, rebuilt


def template_is_sound(newer, parameters, answer, template):
    """Whether a template gives, in the newer edition, what fits the answer of its door."""
    holes = {name: kind for name, kind, needed in parameters if needed}
    try:
        kind = kind_with_holes(newer, template, holes)
    except NoKind:
        return False
    return kind[0] != "answers" and fits(newer, kind, answer)


def bridged(newer, bridge):
    """The newer edition with the doors of a bridge behind its own; refused with NoBridge of the first faulty door."""
    kinds, doors = newer.kinds(), newer.doors()
    for name, parameters, answer, template in bridge:
        doors.append((name, parameters, answer))
        try:
            Edition(kinds, doors, number=newer.number)
        except NoEdition:
            raise NoBridge(name) from None
        if any([kind[0] == "calls" for _, kind, _ in parameters]):
            raise NoBridge(name)
        if not template_is_sound(newer, parameters, answer, template):
            raise NoBridge(name)
    return Edition(kinds, doors, number=newer.number)


def filled(door, template, arguments):
    """A template with its holes filled; refused with NoBridge of its door where an argument for one is left out."""
    def change(term):
        if term[0] != "hole":
            return term
        if term[1] not in arguments:
            raise NoBridge(door)
        return arguments[term[1]]
    return rebuilt(template, change)


def unfolded(bridge, term):
    """A term with each call of a door of a bridge become its template."""
    templates = {door: template for door, _, _, template in bridge}

    def change(each):
        if each[0] != "call" or each[1] not in templates:
            return each
        return filled(each[1], templates[each[1]], dict(each[2]))
    return rebuilt(term, change)


def lost_doors(elder, newer):
    """The names of the doors of the elder edition that the newer one has not, sorted."""
    return sorted([name for name, _, _ in elder.doors() if newer.door(name) is None])
