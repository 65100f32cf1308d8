"""Kinds: what stands within them and how deep they are."""

NUM = ("num",)
TEXT = ("text",)


def kinds_directly_in(kind):
    """The kinds that stand within a kind, by one step."""
    if kind[0] == "row":
        return [kind[1]]
    if kind[0] == "calls":
        return [*kind[1], kind[2]]
    if kind[0] == "answers":
        return [kind[2]]
    return []


def depth(kind):
    """How deep a kind is: 1 where it has no kind within, else one more than the deepest within."""
    levels = 0
    level = [kind]
    while level:
        levels += 1
        level = [inner for outer in level for inner in kinds_directly_in(outer)]
    return levels


def kinds_in(kind):
    """The kind itself and every kind within it, at whatever depth."""
    found = []
    waiting = [kind]
    while waiting:
        each = waiting.pop()
        found.append(each)
        waiting.extend(kinds_directly_in(each))
    return found


def names_in(kind):
    """The names that a kind has, at whatever depth."""
    return [each[1] for each in kinds_in(kind) if each[0] == "of"]


def calls_in(kind):
    """The kinds of callbacks in a kind, itself among them, at whatever depth."""
    return [each for each in kinds_in(kind) if each[0] == "calls"]


def has_calls_in_calls(kind):
    """Whether a callback stands within a callback in the kind."""
    return any([len(calls_in(each)) > 1 for each in calls_in(kind)])
