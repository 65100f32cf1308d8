"""Forms of steps: what a step of terms asks of its parts in an edition, and what it gives there.

A shape is a term without its parts; the first part of some, the head, is told by its kind (None of the others).
A form is a tuple (rows, kind): the rows (name, kind, needed) of the other parts, as parameters of a door are told,
and the kind that the step gives. Where a step cannot run, whatever its other parts are, it has no form: None.
"""

from stillruns.kinds import NUM
from stillruns.steps import declared_as, kind_by_parts

A_NUMBER = ("num", 0)
A_TEXT = ("text", "a")
# The name of the only part of a case or an answer: these have no names for it of their own.
HELD = "held"


def held_rows(kind):
    """The rows of a step with one part of this kind, or with none."""
    return () if kind is None else ((HELD, kind, True),)


def plain_form(edition, shape, head):
    """Of a number or a text."""
    return (), (shape[0],)


def call_form(edition, shape, head):
    """Of the call of a door."""
    door = edition.door(shape[1])
    return None if door is None else (door[1], door[2])


def make_form(edition, shape, head):
    """Of a record with its fields."""
    kind = ("of", shape[1])
    record = declared_as(edition, "record", kind)
    return None if record is None else (record[1], kind)


def case_form(edition, shape, head):
    """Of a case of a choice, made."""
    kind = ("of", shape[1])
    choice = declared_as(edition, "choice", kind)
    cases = {} if choice is None else dict(choice[1])
    return (held_rows(cases[shape[2]]), kind) if shape[2] in cases else None


def handed_form(edition, shape, head):
    """Of what a door hands to a callback: the callback itself is not among the parts."""
    _, name, parameter, place = shape
    door = edition.door(name)
    kinds = {} if door is None else {wanted: kind for wanted, kind, _ in door[1]}
    callback = kinds.get(parameter, NUM)
    if callback[0] != "calls" or place >= len(callback[1]):
        return None
    return tuple([row for row in door[1] if row[0] != parameter]), callback[1][place]


def ask_form(edition, shape, head):
    """Of the call of a callback: its other parts are named by their places."""
    if head[0] != "calls":
        return None
    return tuple([(place, kind, True) for place, kind in enumerate(head[1])]), head[2]


def head_form(edition, shape, head):
    """Of a step with a head and no other parts."""
    kind, fault = kind_by_parts(edition, shape, [head])
    return ((), kind) if fault is None else None


FORMS = {
    "num": plain_form,
    "text": plain_form,
    "call": call_form,
    "make": make_form,
    "case": case_form,
    "handed": handed_form,
    "ask": ask_form,
    "get": head_form,
    "as": head_form,
    "look": head_form,
    "one": head_form,
}


def form_of(edition, shape, head):
    """The form of a step in an edition, or None; head is the kind of its first part, or None."""
    form = FORMS[shape[0]]
    return form(edition, shape, head)


def door_shapes(door):
    """The shapes of the steps that a door allows."""
    name, parameters, _ = door
    handed = [("handed", name, parameter, place) for parameter, kind, _ in parameters if kind[0] == "calls"
              for place in range(len(kind[1]))]
    return [("call", name), *handed]


def first_shapes(edition):
    """The shapes of all steps without a head that have a form in an edition."""
    shapes = [A_NUMBER, A_TEXT]
    for door in edition.doors():
        shapes.extend(door_shapes(door))
    for name, declaration in edition.kinds():
        if declaration[0] == "record":
            shapes.append(("make", name))
        if declaration[0] == "choice":
            shapes.extend([("case", name, case) for case, _ in declaration[1]])
    return shapes


def shapes_on(edition, head):
    """The shapes of all steps that have a form in an edition with a head of this kind."""
    if head[0] == "row":
        return [("one",)]
    if head[0] == "calls":
        return [("ask",)]
    record = declared_as(edition, "record", head)
    if record is not None:
        return [("get", field) for field, _, _ in record[1]]
    choice = declared_as(edition, "choice", head)
    if choice is None:
        return []
    looks = [("look", tuple(sorted([case for case, _ in choice[1]])))] if choice[2] else []
    return [("as", case) for case, held in choice[1] if held is not None] + looks


def term_of(shape, head, others):
    """The term of a shape with its head, a term or None, and its other parts by their names."""
    if shape[0] in ("call", "make", "handed"):
        return *shape, tuple([(name, others[name]) for name in sorted(others)])
    if shape[0] == "ask":
        return *shape, head, tuple([others[place] for place in sorted(others)])
    if head is not None:
        return *shape, head
    return shape if shape[0] in ("num", "text") else (*shape, others.get(HELD))
