"""The steps of terms: what a term gives by the kinds of its parts.

Each step tells a kind and a fault. Where the fault is not None the term has no kind.
"""

from stillruns.editions import fits
from stillruns.kinds import NUM, TEXT


def parts_of(term):
    """The terms in a term, in their order."""
    if term[0] in ("num", "text", "hole"):
        return []
    if term[0] in ("call", "make", "handed"):
        return [part for _, part in term[-1]]
    if term[0] == "ask":
        return [term[1], *term[2]]
    return [] if term[-1] is None else [term[-1]]


def with_parts(term, parts):
    """A term with other parts, as many, in the place of its own."""
    if not parts:
        return term
    if term[0] in ("call", "make", "handed"):
        return *term[:-1], tuple([(row[0], part) for row, part in zip(term[-1], parts)])
    if term[0] == "ask":
        return "ask", parts[0], tuple(parts[1:])
    return *term[:-1], parts[0]


def are_rising(names):
    """Whether each name stands behind the one ahead of it in the order of letters."""
    return all([one < other for one, other in zip(names, names[1:])])


def argument_fault(edition, wanted, arguments, given):
    """The fault of arguments of given kinds for wanted parameters or fields, or None."""
    names = [name for name, _ in arguments]
    asked = {name: kind for name, kind, _ in wanted}
    if not are_rising(names):
        return "args"
    if not all([name in asked for name in names]):
        return "param"
    if not all([name in names for name, _, needed in wanted if needed]):
        return "left"
    if not all([fits(edition, kind, asked[name]) for name, kind in zip(names, given)]):
        return "kind"
    return None


def declared_as(edition, word, kind):
    """The declaration of a kind where it is a declared one of this word, else None."""
    declaration = edition.declaration(kind[1]) if kind[0] == "of" else None
    if declaration is None or declaration[0] != word:
        return None
    return declaration


def num_step(edition, term, given):
    """A number."""
    return NUM, None


def text_step(edition, term, given):
    """A text."""
    return TEXT, None


def call_step(edition, term, given):
    """The call of a door."""
    _, name, arguments = term
    door = edition.door(name)
    if door is None:
        return None, "door"
    return door[2], argument_fault(edition, door[1], arguments, given)


def make_step(edition, term, given):
    """A record with its fields."""
    _, name, arguments = term
    record = declared_as(edition, "record", ("of", name))
    if record is None:
        return None, "record"
    return ("of", name), argument_fault(edition, record[1], arguments, given)


def get_step(edition, term, given):
    """A field of a record: a row of what may be missing."""
    record = declared_as(edition, "record", given[0])
    if record is None:
        return None, "record"
    for field, kind, needed in record[1]:
        if field == term[1]:
            return (kind if needed else ("row", kind)), None
    return None, "param"


def case_step(edition, term, given):
    """A case of a choice, made."""
    choice = declared_as(edition, "choice", ("of", term[1]))
    if choice is None:
        return None, "choice"
    cases = dict(choice[1])
    if term[2] not in cases:
        return None, "param"
    wanted = [] if cases[term[2]] is None else [cases[term[2]]]
    if len(given) != len(wanted):
        return None, "left"
    if not all([fits(edition, kind, case_kind) for kind, case_kind in zip(given, wanted)]):
        return None, "kind"
    return ("of", term[1]), None


def as_step(edition, term, given):
    """What a case of a choice holds."""
    choice = declared_as(edition, "choice", given[0])
    if choice is None:
        return None, "choice"
    cases = dict(choice[1])
    if term[1] not in cases:
        return None, "param"
    if cases[term[1]] is None:
        return None, "left"
    return cases[term[1]], None


def look_step(edition, term, given):
    """Which of all the cases of a shut choice it is."""
    choice = declared_as(edition, "choice", given[0])
    if choice is None:
        return None, "choice"
    if not choice[2]:
        return None, "open"
    if list(term[1]) != sorted([name for name, _ in choice[1]]):
        return None, "args"
    return NUM, None


def one_step(edition, term, given):
    """One value of a row."""
    if given[0][0] != "row":
        return None, "row"
    return given[0][1], None


def answer_step(edition, term, given):
    """A callback that the program writes."""
    return ("answers", term[1], given[0]), None


def ask_step(edition, term, given):
    """The call of a callback."""
    callback, *others = given
    if callback[0] != "calls":
        return None, "calls"
    if len(others) != len(callback[1]):
        return None, "args"
    if not all([fits(edition, kind, wanted) for kind, wanted in zip(others, callback[1])]):
        return None, "kind"
    return callback[2], None


def handed_step(edition, term, given):
    """What a door hands to a callback: the callback itself is not among the arguments."""
    _, name, parameter, place, arguments = term
    door = edition.door(name)
    if door is None:
        return None, "door"
    kinds = {wanted: kind for wanted, kind, _ in door[1]}
    if parameter not in kinds:
        return None, "param"
    callback = kinds[parameter]
    if callback[0] != "calls":
        return None, "calls"
    if not 0 <= place < len(callback[1]):
        return None, "place"
    others = [row for row in door[1] if row[0] != parameter]
    return callback[1][place], argument_fault(edition, others, arguments, given)


STEPS = {
    "num": num_step,
    "text": text_step,
    "call": call_step,
    "make": make_step,
    "get": get_step,
    "case": case_step,
    "as": as_step,
    "look": look_step,
    "one": one_step,
    "answer": answer_step,
    "ask": ask_step,
    "handed": handed_step,
}


def kind_by_parts(edition, term, given):
    """The kind that a term has by the kinds of its parts, and its fault or None."""
    step = STEPS[term[0]]
    return step(edition, term, given)
