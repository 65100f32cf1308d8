"""Small editions made by seeds, and editions that differ from them a little: the same ones each time."""

import random

from stillruns.editions import Edition
from stillruns.errors import NoEdition
from tests.examples import NUM, TEXT, calls, choice, hidden, of, record, row


def made_kind(rng, names, levels=3, callback=True):
    place = rng.random()
    if levels == 1 or place < 0.6:
        return rng.choice([NUM, TEXT] + [of(name) for name in names] * 2)
    if place < 0.8 or not callback:
        return row(made_kind(rng, names, levels - 1, callback))
    handed = [made_kind(rng, names, 1) for _ in range(rng.choice([0, 1, 1, 2]))]
    return calls(handed, made_kind(rng, names, 2, False))


def made_rows(rng, names, most):
    fields = rng.sample("pqrs", rng.randint(0, most))
    return tuple((field, made_kind(rng, names), rng.random() < 0.6) for field in fields)


def made_declaration(rng, names):
    word = rng.choice(["record", "record", "choice", "hidden"])
    if word == "record":
        return record(*made_rows(rng, names, 2), above=rng.sample(names, rng.choice([0, 0, 1])))
    if word == "hidden":
        return hidden(*rng.sample(names, rng.choice([0, 0, 1])))
    cases = [(case, rng.choice([None, made_kind(rng, names)])) for case in rng.sample("xyz", rng.randint(0, 3))]
    return choice(*cases, shut=rng.random() < 0.7)


def made_edition(rng):
    """An edition of up to three kinds and three doors."""
    while True:
        names = list("abc"[:rng.randint(0, 3)])
        kinds = [(name, made_declaration(rng, names)) for name in names]
        doors = [(door, made_rows(rng, names, 2), made_kind(rng, names)) for door in "klm"[:rng.randint(0, 3)]]
        try:
            return Edition(kinds, doors)
        except NoEdition:
            continue


def changed_rows(rng, names, rows):
    """Rows of a record or a door with one gone, put in, or made other."""
    rows = list(rows)
    free = sorted(set("pqrs") - {name for name, _, _ in rows})
    place = rng.random()
    if rows and place < 0.25:
        rows.pop(rng.randrange(len(rows)))
    elif place < 0.45 or not rows:
        rows.insert(rng.randint(0, len(rows)), (rng.choice(free), made_kind(rng, names), rng.random() < 0.5))
    else:
        at = rng.randrange(len(rows))
        name, kind, needed = rows[at]
        rows[at] = (name, kind, not needed) if place < 0.7 else (name, made_kind(rng, names), needed)
    return tuple(rows)


def changed_declaration(rng, names, declaration):
    word, first, *rest = declaration
    place = rng.random()
    if place < 0.1:
        return made_declaration(rng, names)
    if word == "record" and place < 0.8:
        return (word, changed_rows(rng, names, first), *rest)
    if word == "record":
        return (word, first, tuple(rng.sample(names, rng.choice([0, 1]))))
    if word == "hidden":
        return hidden(*rng.sample(names, rng.choice([0, 1])))
    if place < 0.4:
        return (word, first, not rest[0])
    kept = [each for each in first if rng.random() < 0.6]
    free = sorted(set("xyz") - {case for case, _ in kept})
    put_in = [(case, rng.choice([None, made_kind(rng, names)])) for case in free if rng.random() < 0.3]
    return (word, tuple(kept + put_in), *rest)


def changed_edition(rng, edition):
    """An edition that differs from another one by a few changes."""
    for _ in range(100):
        kinds, doors = edition.kinds(), edition.doors()
        names = [name for name, _ in kinds]
        for _ in range(rng.choice([1, 1, 2, 3])):
            if kinds and rng.random() < 0.5:
                at = rng.randrange(len(kinds))
                kinds[at] = (kinds[at][0], changed_declaration(rng, names, kinds[at][1]))
            elif doors and rng.random() < 0.1:
                doors.pop(rng.randrange(len(doors)))
            elif doors:
                at = rng.randrange(len(doors))
                door, parameters, answer = doors[at]
                if rng.random() < 0.7:
                    parameters = changed_rows(rng, names, parameters)
                else:
                    answer = made_kind(rng, names)
                doors[at] = (door, parameters, answer)
        try:
            return Edition(kinds, doors)
        except NoEdition:
            continue
    return edition


def made_couple(seed):
    """An elder and a newer edition."""
    rng = random.Random(seed)
    one = made_edition(rng)
    other = changed_edition(rng, one)
    return (one, other) if rng.random() < 0.6 else (other, one)
