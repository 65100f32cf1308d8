"""Ways: each step of terms that can run in the elder edition, seen in the elder and the newer one."""

from stillruns.forms import HELD, first_shapes, form_of, held_rows, shapes_on


class Way:
    """A step: what it asks of its parts in the elder, what it wants in the newer, the pair that it gives.

    The head is the pair of its first part, or None; the rows that it asks and wants are those of forms. Where it
    cannot run in the newer whatever its other parts are, what it wants and gives is None.
    """

    def __init__(self, shape, head, asked, wanted, gives):
        self.shape = shape
        self.head = head
        self.asked = asked
        self.wanted = wanted
        self.gives = gives


def way_of(elder, newer, shape, head):
    """The way of a shape that has a form in the elder edition; head is a pair or None."""
    one, other = (None, None) if head is None else head
    asked, kind = form_of(elder, shape, one)
    form = form_of(newer, shape, other)
    if form is None:
        return Way(shape, head, asked, None, None)
    return Way(shape, head, asked, form[0], (kind, form[1]))


def first_ways(elder, newer):
    """The ways without a head."""
    return [way_of(elder, newer, shape, None) for shape in first_shapes(elder)]


def ways_on(elder, newer, head):
    """The ways with a head of this pair."""
    return [way_of(elder, newer, shape, head) for shape in shapes_on(elder, head[0])]


def all_ways(elder, newer, heads):
    """The ways without a head, and those with a head of one of these pairs."""
    ways = first_ways(elder, newer)
    for head in heads:
        ways.extend(ways_on(elder, newer, head))
    return ways


def answer_way(kind, other):
    """The way of an answer literal for callbacks of these kinds, None where none is for both.

    It is told as if its part had the very kinds that the callbacks answer: what fits these is as good.
    """
    if kind[0] != "calls" or other[0] != "calls" or len(kind[1]) != len(other[1]):
        return None
    many = len(kind[1])
    gives = (("answers", many, kind[2]), ("answers", many, other[2]))
    return Way(("answer", many), None, held_rows(kind[2]), held_rows(other[2]), gives)


def shared_rows(way):
    """The rows (name, elder kind, newer kind) of the parts that a term must have that runs in both editions.

    None where no term of this way runs in both. A part is needed that one of the editions needs.
    """
    if way.wanted is None:
        return None
    asked = {name: (kind, needed) for name, kind, needed in way.asked}
    wanted = {name: (kind, needed) for name, kind, needed in way.wanted}
    names = [name for name in asked if asked[name][1]]
    names.extend([name for name in wanted if wanted[name][1] and name not in names])
    if not all([name in asked and name in wanted for name in names]):
        return None
    return [(name, asked[name][0], wanted[name][0]) for name in names]
