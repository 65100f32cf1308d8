"""Kinds and editions read from their writings. Whatever is read is written as that very text.

What stands where a name is due is taken as it is: one that is no name makes its edition faulty.
"""

from stillruns.checks import MOST_CALLED
from stillruns.editions import Edition
from stillruns.errors import NoEdition, NoText
from stillruns.kinds import calls_in, has_calls_in_calls
from stillruns.names import TAKEN, is_name
from stillruns.scanning import Scanner

MOST_LEVELS = 5
MOST_FIGURES = 60
FIGURES = "0123456789"


def callback_at(scan, levels):
    """The kind of a callback, behind its first bracket, of kinds of at most so many levels."""
    kinds = []
    if not scan.takes("-> "):
        kinds.append(kind_at(scan, levels))
        while scan.takes(", "):
            kinds.append(kind_at(scan, levels))
        scan.needs(" -> ")
    answer = kind_at(scan, levels)
    scan.needs(")")
    return "calls", tuple(kinds), answer


def kind_at(scan, levels):
    """The kind that stands next, of at most so many levels."""
    if levels == 0:
        raise NoText(scan.text)
    if scan.takes("["):
        inner = kind_at(scan, levels - 1)
        scan.needs("]")
        return "row", inner
    if scan.takes("("):
        return callback_at(scan, levels - 1)
    word = scan.letters()
    if word in TAKEN:
        # These two are no names: each is a kind of its own.
        return (word,)
    if not is_name(word):
        raise NoText(scan.text)
    return "of", word


def read_kind(text):
    """The kind that a text writes; refused with NoText where it writes none."""
    scan = Scanner(text)
    kind = kind_at(scan, MOST_LEVELS)
    scan.ends()
    if has_calls_in_calls(kind) or any([len(each[1]) > MOST_CALLED for each in calls_in(kind)]):
        raise NoText(text)
    return kind


def part_of_number_at(scan):
    """The whole number that stands next: no nought ahead of other figures."""
    figures = scan.run_of(FIGURES)
    if not 1 <= len(figures) <= MOST_FIGURES or (figures[0] == "0" and len(figures) > 1):
        raise NoText(scan.text)
    return int(figures)


def number_at(scan):
    """The number of an edition."""
    first = part_of_number_at(scan)
    scan.needs(".")
    second = part_of_number_at(scan)
    scan.needs(".")
    return first, second, part_of_number_at(scan)


def rows_at(scan, read):
    """What stands next in brackets, parted by commas, each read by a function."""
    scan.needs("(")
    rows = []
    if scan.takes(")"):
        return rows
    rows.append(read(scan))
    while scan.takes(", "):
        rows.append(read(scan))
    scan.needs(")")
    return rows


def field_at(scan):
    """A field of a record or a parameter of a door."""
    name = scan.letters()
    needed = not scan.takes("?")
    scan.needs(" ")
    return name, kind_at(scan, MOST_LEVELS), needed


def case_at(scan):
    """A case of a choice, or None of the two dots in the place of one."""
    if scan.takes(".."):
        return None
    name = scan.letters()
    return name, (kind_at(scan, MOST_LEVELS) if scan.takes(" ") else None)


def above_at(scan):
    """The names that a declaration stands under."""
    if not scan.takes(" under "):
        return ()
    above = [scan.letters()]
    while scan.takes(", "):
        above.append(scan.letters())
    return tuple(above)


def record_at(scan):
    """A record, behind its name."""
    fields = rows_at(scan, field_at)
    return "record", tuple(fields), above_at(scan)


def choice_at(scan):
    """A choice, behind its name."""
    cases = rows_at(scan, case_at)
    shut = not cases or cases[-1] is not None
    if not shut:
        cases.pop()
    if None in cases:
        raise NoText(scan.text)
    return "choice", tuple(cases), shut


def hidden_at(scan):
    """A hidden kind, behind its name."""
    return "hidden", above_at(scan)


def door_at(scan):
    """The parameters and the answer of a door, behind its name."""
    parameters = rows_at(scan, field_at)
    scan.needs(" -> ")
    return tuple(parameters), kind_at(scan, MOST_LEVELS)


DECLARATIONS = {"record": record_at, "choice": choice_at, "hidden": hidden_at}


def members_at(scan):
    """The declarations of an edition and, behind them, its doors."""
    kinds, doors = [], []
    while scan.takes("; "):
        word = scan.letters()
        scan.needs(" ")
        name = scan.letters()
        if word == "door":
            parameters, answer = door_at(scan)
            doors.append((name, parameters, answer))
        elif word in DECLARATIONS and not doors:
            read = DECLARATIONS[word]
            kinds.append((name, read(scan)))
        else:
            raise NoText(scan.text)
    return kinds, doors


def read_edition(text):
    """The edition that a text writes; refused with NoText where it writes none, or a faulty one."""
    scan = Scanner(text)
    number = number_at(scan)
    kinds, doors = members_at(scan)
    scan.ends()
    try:
        return Edition(kinds, doors, number=number)
    except NoEdition:
        raise NoText(text) from None
