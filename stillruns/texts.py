"""The writings of kinds, editions and terms."""

from stillruns.walks import walked


def in_brackets(writings):
    """Writings in brackets, parted by commas."""
    joined = ", ".join(writings)
    return f"({joined})"


def show_kind(kind):
    """The writing of a kind."""
    if kind[0] == "row":
        return f"[{show_kind(kind[1])}]"
    if kind[0] == "calls":
        called = ", ".join([show_kind(each) for each in kind[1]])
        ahead = f"{called} " if kind[1] else ""
        return f"({ahead}-> {show_kind(kind[2])})"
    return kind[1] if kind[0] == "of" else kind[0]


def show_rows(rows):
    """The writing of the fields of a record or the parameters of a door."""
    return in_brackets([f"{name} {show_kind(kind)}" if needed else f"{name}? {show_kind(kind)}"
                        for name, kind, needed in rows])


def show_cases(cases, shut):
    """The writing of the cases of a choice."""
    writings = [case if kind is None else f"{case} {show_kind(kind)}" for case, kind in cases]
    return in_brackets(writings if shut else [*writings, ".."])


def show_above(above):
    """The writing of what a declaration stands under."""
    joined = ", ".join(above)
    return f" under {joined}" if above else ""


def show_declaration(name, declaration):
    """The writing of a declaration."""
    if declaration[0] == "record":
        return f"record {name}{show_rows(declaration[1])}{show_above(declaration[2])}"
    if declaration[0] == "choice":
        return f"choice {name}{show_cases(declaration[1], declaration[2])}"
    return f"hidden {name}{show_above(declaration[1])}"


def show_door(door):
    """The writing of a door."""
    name, parameters, answer = door
    return f"door {name}{show_rows(parameters)} -> {show_kind(answer)}"


def show_number(number):
    """The writing of the number of an edition."""
    return ".".join([str(each) for each in number])


def show_edition(edition):
    """The writing of an edition: the only one that it has."""
    declarations = [show_declaration(name, declaration) for name, declaration in edition.kinds()]
    doors = [show_door(door) for door in edition.doors()]
    return "; ".join([show_number(edition.number), *declarations, *doors])


def show_arguments(arguments, given):
    """The writing of arguments, of the writings of their terms."""
    return in_brackets([f"{row[0]}: {part}" for row, part in zip(arguments, given)])


def show_others(first, others):
    """The writing of a first one and of what others belong to it."""
    joined = ", ".join(others)
    return f"{first}: {joined}" if others else first


def show_num(term, given):
    """The writing of a number."""
    return str(term[1])


def show_text(term, given):
    """The writing of a text."""
    return f"'{term[1]}'"


def show_call(term, given):
    """The writing of the call of a door."""
    return f"{term[1]}{show_arguments(term[2], given)}"


def show_make(term, given):
    """The writing of a record that is made."""
    return f"new {term[1]}{show_arguments(term[2], given)}"


def show_get(term, given):
    """The writing of a field that is read."""
    return f"{given[0]}.{term[1]}"


def show_case(term, given):
    """The writing of a case that is made."""
    return f"{term[1]}!{term[2]}({given[0]})" if given else f"{term[1]}!{term[2]}"


def show_as(term, given):
    """The writing of what a case holds."""
    return f"({given[0]} as {term[1]})"


def show_look(term, given):
    """The writing of a look at which case it is."""
    return f"look({show_others(given[0], term[1])})"


def show_one(term, given):
    """The writing of one value of a row."""
    return f"one({given[0]})"


def show_answer(term, given):
    """The writing of a callback that the program writes."""
    return f"({term[1]} -> {given[0]})"


def show_ask(term, given):
    """The writing of a callback that is called."""
    return f"ask({show_others(given[0], given[1:])})"


def show_handed(term, given):
    """The writing of what a door hands to a callback."""
    return f"{term[1]}?{term[2]}.{term[3]}{show_arguments(term[4], given)}"


SHOWS = {
    "num": show_num,
    "text": show_text,
    "call": show_call,
    "make": show_make,
    "get": show_get,
    "case": show_case,
    "as": show_as,
    "look": show_look,
    "one": show_one,
    "answer": show_answer,
    "ask": show_ask,
    "handed": show_handed,
}


def show_term(term):
    """The writing of a term."""
    def step(at, given, begun):
        show = SHOWS[at[0]]
        return show(at, given)
    return walked(term, step)
