"""All terms of small sizes in an edition, listed step by step by the words of the document; and papers judged so.

Nothing here knows of pairs or of least sizes: what it lists is judged by `kind_of` alone.
"""

from itertools import combinations, product

from stillruns.editions import fits
from stillruns.steps import kind_by_parts


def splits(total, many):
    """All ways to split a size among so many parts, each at least 1."""
    if many == 0:
        return [()] if total == 0 else []
    if many == 1:
        return [(total,)] if total >= 1 else []
    return [(first, *rest) for first in range(1, total) for rest in splits(total - first, many - 1)]


def subsets(names):
    """All sets of names, each rising."""
    ordered = sorted(names)
    return [chosen for many in range(len(ordered) + 1) for chosen in combinations(ordered, many)]


def shapes(edition):
    """All steps of an edition but num, text and answer: a tuple (wanted kinds of the parts, function of the parts).

    A wanted kind is None where any part will do.
    """
    steps = []
    for name, parameters, _ in edition.doors():
        steps += argument_shapes(("call", name), parameters)
        for parameter, kind, _ in parameters:
            if kind[0] == "calls":
                others = [row for row in parameters if row[0] != parameter]
                for place in range(len(kind[1])):
                    steps += argument_shapes(("handed", name, parameter, place), others)
    for name, declaration in edition.kinds():
        if declaration[0] == "record":
            steps += argument_shapes(("make", name), declaration[1])
            for field, _, _ in declaration[1]:
                steps.append(((None,), lambda part, field=field: ("get", field, part)))
        if declaration[0] == "choice":
            for case, kind in declaration[1]:
                if kind is None:
                    steps.append(((), lambda name=name, case=case: ("case", name, case, None)))
                else:
                    steps.append(((kind,), lambda part, name=name, case=case: ("case", name, case, part)))
                    steps.append(((None,), lambda part, case=case: ("as", case, part)))
            cases = tuple(sorted(case for case, _ in declaration[1]))
            steps.append(((None,), lambda part, cases=cases: ("look", cases, part)))
    return steps + [((None,), lambda part: ("one", part))]


def asks(heads):
    """The steps that ask a callback, for all kinds of first parts: other ones, and other parts, do not run."""
    callbacks = [kind for kind in dict.fromkeys(heads) if kind[0] == "calls"]
    return [((kind, *kind[1]), lambda part, *others: ("ask", part, others)) for kind in callbacks]


def argument_shapes(head, rows):
    """The steps of a word that takes arguments, one for each set of them."""
    kinds = {name: kind for name, kind, _ in rows}
    needed = {name for name, _, must in rows if must}
    return [(tuple(kinds[name] for name in names), lambda *parts, names=names: (*head, tuple(zip(names, parts))))
            for names in subsets(kinds) if needed <= set(names)]


def listed(edition, most):
    """All terms that run in an edition, up to a size: rows (size, kind, term). Numbers and texts are one each."""
    rows = {1: [(("num",), ("num", 7)), (("text",), ("text", "t"))]}
    for size in range(1, most + 1):
        found = rows.setdefault(size, [])
        steps = shapes(edition) + asks([kind for each in rows for kind, _ in rows[each]])
        for kind, term in rows.get(size - 1, []):
            found += [(("answers", count, kind), ("answer", count, term)) for count in range(4)]
        for wanted, step in steps:
            for sizes in splits(size - 1, len(wanted)):
                choices = [[row for row in rows[each] if kind is None or fits(edition, row[0], kind)]
                           for each, kind in zip(sizes, wanted)]
                for parts in product(*choices):
                    term = step(*[part for _, part in parts])
                    kind, fault = kind_by_parts(edition, term, [kind for kind, _ in parts])
                    if fault is None:
                        found.append((kind, term))
    return [(size, kind, term) for size in rows for kind, term in rows[size]]


def parts_of_paper(told):
    """The pairs by a paper, answer literals among them, with their sizes."""
    parts = [(pair, size) for pair, size in told.items()]
    return parts + [((("answers", count, one), ("answers", count, other)), size + 1)
                    for (one, other), size in told.items() for count in range(4)]


def judged(elder, newer, told, bound):
    """Whether a dict of pairs with sizes is let by, of each step with all parts: bound None asks of all sizes."""
    parts = parts_of_paper(told)
    blank = ("num", 0)
    steps = [((), lambda: ("num", 0)), ((), lambda: ("text", "a"))] + shapes(elder) + asks([one for one, _ in told])
    for wanted, step in steps:
        term = step(*[blank for _ in wanted])
        choices = [[part for part in parts if kind is None or fits(elder, part[0][0], kind)] for kind in wanted]
        for chosen in product(*choices):
            size = 1 + sum(each for _, each in chosen)
            if bound is not None and size >= bound:
                continue
            one, fault = kind_by_parts(elder, term, [pair[0] for pair, _ in chosen])
            if fault is not None:
                continue
            other, fault = kind_by_parts(newer, term, [pair[1] for pair, _ in chosen])
            if fault is not None or (one, other) not in told:
                return False
            if bound is not None and told[one, other] > size:
                return False
    return True
