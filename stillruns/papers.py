"""Papers that show what breaks: relations and tables, told and judged.

A paper is judged by its own pairs alone, whether terms have them or not.
"""

from stillruns.breaks import breaking_way, sorted_rows
from stillruns.errors import Breaks, Holds
from stillruns.outcomes import least_breaking, least_running
from stillruns.spread import spread
from stillruns.stock import Judge, Stock
from stillruns.ways import all_ways


def is_below(size, bound):
    """Whether a size is below a bound; None is no bound."""
    return bound is None or size < bound


def way_is_let_by(way, stock, bound):
    """Whether the terms of a way below a bound that run in the elder run in the newer, with a pair of the stock."""
    breaking = least_breaking(way, stock)
    if breaking is not None and is_below(breaking[0], bound):
        return False
    running = least_running(way, stock)
    if running is None or not is_below(running, bound):
        return True
    # Below the bound none breaks: what runs in the elder runs in both.
    return way.gives in stock.sizes and stock.sizes[way.gives] <= running


def are_let_by(elder, newer, told, bound):
    """Whether a dict of pairs and their sizes is let by."""
    stock = Stock(Judge(elder), Judge(newer), told)
    return all([way_is_let_by(way, stock, bound) for way in all_ways(elder, newer, list(told))])


def relation(elder, newer):
    """The relation of two editions; refused with Breaks where some term breaks."""
    found = spread(elder, newer)
    best = breaking_way(found)
    if best is not None:
        raise Breaks(best[0])
    return [pair for pair, _ in sorted_rows(found)]


def relation_holds(elder, newer, rows):
    """Whether a relation is let by."""
    # With sizes of nought and no bound a table asks for the pairs alone.
    return are_let_by(elder, newer, {(kind, other): 0 for kind, other in rows}, None)


def table(elder, newer):
    """The table of two editions; refused with Holds where no term breaks."""
    found = spread(elder, newer)
    best = breaking_way(found)
    if best is None:
        raise Holds(None)
    return [(pair, size) for pair, size in sorted_rows(found) if size < best[0]]


def table_holds(elder, newer, rows, *, bound):
    """Whether a table is let by."""
    told = {(kind, other): size for (kind, other), size in rows}
    return len(told) == len(rows) and are_let_by(elder, newer, told, bound)
