"""Which kinds fit which, by a table of what stands under what.

The table has a row for each declared name: the names that it stands under, by one step or more.
It may be made of faulty declarations, too: an edition is judged by them before there is one.
"""

from stillruns.kinds import names_in


def directly_above(declaration):
    """The names that a declaration tells as standing above."""
    if declaration[0] == "record":
        return declaration[2]
    if declaration[0] == "hidden":
        return declaration[1]
    return ()


def names_above(declared, name):
    """The names that a declared name stands under, by one step or more, as the keys of a dict."""
    found = {}
    waiting = list(directly_above(declared[name]))
    while waiting:
        each = waiting.pop()
        if each in found:
            continue
        found[each] = True
        if each in declared:
            waiting.extend(directly_above(declared[each]))
    return found


def table_above(declared):
    """The table of what stands under what, of a dict of declarations by their names."""
    return {name: names_above(declared, name) for name in declared}


def all_declared(above, kind):
    """Whether each name in a kind is declared."""
    return all([name in above for name in names_in(kind)])


def pairs_asked(above, given, wanted):
    """The pairs of kinds that must fit for the given one to fit the wanted one; None where it cannot."""
    words = (given[0], wanted[0])
    if words == ("of", "of") and wanted[1] in above[given[1]]:
        return []
    if words == ("row", "row"):
        return [(given[1], wanted[1])]
    if words == ("calls", "calls") and len(given[1]) == len(wanted[1]):
        # A callback takes what it is called with: there the wanted kinds fit the given ones.
        return list(zip(wanted[1], given[1])) + [(given[2], wanted[2])]
    if words == ("answers", "calls") and given[1] == len(wanted[1]):
        return [(given[2], wanted[2])]
    if words == ("answers", "answers") and given[1] == wanted[1]:
        return [(given[2], wanted[2])]
    return None


def fits_by(above, given, wanted):
    """Whether a given kind fits a wanted one."""
    if given == wanted:
        return True
    if not all_declared(above, given) or not all_declared(above, wanted):
        return False
    waiting = [(given, wanted)]
    while waiting:
        lower, upper = waiting.pop()
        if lower == upper:
            continue
        asked = pairs_asked(above, lower, upper)
        if asked is None:
            return False
        waiting.extend(asked)
    return True
