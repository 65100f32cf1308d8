"""What makes a declaration or a door faulty."""

from stillruns.errors import NoEdition
from stillruns.fitting import directly_above, fits_by, table_above
from stillruns.kinds import calls_in, depth, has_calls_in_calls, names_in
from stillruns.names import any_twice, is_name

MOST_KINDS = 12
MOST_DOORS = 16
MOST_ROWS = 6
MOST_CALLED = 3
DEEPEST = 4


def first_declared(kinds):
    """The declarations by their names: of a name that is declared twice, the first one."""
    declared = {}
    for name, declaration in kinds:
        declared.setdefault(name, declaration)
    return declared


def kind_is_sound(declared, kind):
    """Whether a kind may stand in a declaration or a door."""
    return (depth(kind) <= DEEPEST
            and not has_calls_in_calls(kind)
            and all([len(each[1]) <= MOST_CALLED for each in calls_in(kind)])
            and all([name in declared for name in names_in(kind)]))


def names_are_sound(names):
    """Whether these may be the fields, cases or parameters of one declaration or door."""
    return len(names) <= MOST_ROWS and all([is_name(name) for name in names]) and not any_twice(names)


def above_is_sound(declared, name, declaration, above):
    """Whether what a declaration tells as above it may stand there."""
    allowed = ("record", "hidden") if declaration[0] == "record" else ("hidden",)
    uppers = directly_above(declaration)
    if any_twice(uppers) or name in above[name]:
        return False
    return all([upper in declared and declared[upper][0] in allowed for upper in uppers])


def has_fields_of(above, fields, wanted):
    """Whether a record with these fields has the wanted ones: as much needed, of kinds that fit."""
    own = {field: (kind, needed) for field, kind, needed in fields}
    for field, kind, needed in wanted:
        if field not in own:
            return False
        own_kind, own_needed = own[field]
        if own_needed != needed or not fits_by(above, own_kind, kind):
            return False
    return True


def record_is_sound(declared, declaration, above):
    """Whether the fields of a record, with sound names above it, may stand there."""
    fields = declaration[1]
    if not names_are_sound([field for field, _, _ in fields]):
        return False
    if not all([kind_is_sound(declared, kind) for _, kind, _ in fields]):
        return False
    uppers = [declared[upper] for upper in declaration[2]]
    return all([has_fields_of(above, fields, upper[1]) for upper in uppers if upper[0] == "record"])


def choice_is_sound(declared, declaration):
    """Whether the cases of a choice may stand there."""
    cases = declaration[1]
    if not names_are_sound([name for name, _ in cases]):
        return False
    return all([kind_is_sound(declared, kind) for _, kind in cases if kind is not None])


def declaration_is_sound(declared, name, declaration, above):
    """Whether a declaration is without fault, but for a name that stood there already."""
    if not is_name(name) or not above_is_sound(declared, name, declaration, above):
        return False
    if declaration[0] == "record":
        return record_is_sound(declared, declaration, above)
    if declaration[0] == "choice":
        return choice_is_sound(declared, declaration)
    return True


def door_is_sound(declared, door):
    """Whether a door is without fault, but for a name that stood there already."""
    name, parameters, answer = door
    if not is_name(name) or not names_are_sound([parameter for parameter, _, _ in parameters]):
        return False
    kinds = [kind for _, kind, _ in parameters] + [answer]
    return all([kind_is_sound(declared, kind) for kind in kinds])


def check_lengths(kinds, doors):
    """Refuse lists that are too long."""
    if len(kinds) > MOST_KINDS or len(doors) > MOST_DOORS:
        raise NoEdition(None)


def check_kinds(kinds):
    """Refuse the first faulty declaration."""
    declared = first_declared(kinds)
    above = table_above(declared)
    seen = set()
    for name, declaration in kinds:
        if name in seen or not declaration_is_sound(declared, name, declaration, above):
            raise NoEdition(name)
        seen.add(name)


def check_doors(kinds, doors):
    """Refuse the first faulty door."""
    declared = first_declared(kinds)
    seen = set()
    for door in doors:
        if door[0] in seen or not door_is_sound(declared, door):
            raise NoEdition(door[0])
        seen.add(door[0])
