"""What comes of a way with parts of a stock: the least terms that run in the elder edition, and the least that break.

Parts are told as dicts, by the names of the rows of the way.
"""


def size_of(way, parts, stock):
    """The size of a term of a way with these parts."""
    head = 0 if way.head is None else stock.sizes[way.head]
    return 1 + head + sum([part[0] for part in parts.values()])


def least_parts(way, stock):
    """The least parts with which a term of a way runs in the elder edition, or None."""
    parts = {}
    for name, kind, needed in way.asked:
        part = stock.least(kind)
        if part is None and needed:
            return None
        # A table may tell sizes below nought: with such a part, though it may be left out, a term is lesser.
        if part is not None and (needed or part[0] < 0):
            parts[name] = part
    return parts


def parts_left_out(way, parts):
    """For each part that only the newer edition needs, the parts without it."""
    asked = {name: needed for name, _, needed in way.asked}
    names = [name for name, _, needed in way.wanted if needed and not asked.get(name, False)]
    return [{each: parts[each] for each in parts if each != name} for name in names]


def parts_put_in(way, parts, stock):
    """For each part that the elder edition takes and the newer one does not, the parts with it."""
    wanted = {name: kind for name, kind, _ in way.wanted}
    found = []
    for name, kind, _ in way.asked:
        part = stock.least_unfit(kind, wanted[name]) if name in wanted else stock.least(kind)
        if part is not None:
            found.append({**parts, name: part})
    return found


def breaking_parts(way, stock):
    """For each cause for which a term of a way runs in the elder edition alone, the least parts that it has then."""
    parts = least_parts(way, stock)
    if parts is None:
        return []
    if way.wanted is None:
        return [parts]
    return parts_left_out(way, parts) + parts_put_in(way, parts, stock)


def least_breaking(way, stock):
    """A tuple (size, parts) of a least term of a way that runs in the elder edition alone, or None."""
    found = [(size_of(way, parts, stock), parts) for parts in breaking_parts(way, stock)]
    return min(found, key=lambda row: row[0]) if found else None


def least_running(way, stock):
    """The size of a least term of a way that runs in the elder edition, or None."""
    parts = least_parts(way, stock)
    return None if parts is None else size_of(way, parts, stock)
