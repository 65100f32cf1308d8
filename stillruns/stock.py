"""A stock of parts: pairs of kinds with sizes, and which of them are the least that a step can take.

A part is a tuple (size, pair, count): a term with this pair or, where count is not None, the answer literal of so
many kinds around such a term; the size is of the whole part.
"""

from stillruns.editions import fits


class Judge:
    """Whether kinds fit in an edition, each question judged once."""

    def __init__(self, edition):
        self.edition = edition
        self.known = {}

    def agrees(self, given, wanted):
        """Whether a given kind fits a wanted one."""
        known = self.known.setdefault(wanted, {})
        if given not in known:
            known[given] = fits(self.edition, given, wanted)
        return known[given]


class Stock:
    """Pairs with sizes, to build terms of."""

    def __init__(self, elder_judge, newer_judge, sizes):
        self.elder_judge = elder_judge
        self.newer_judge = newer_judge
        self.sizes = sizes
        self.by_kind = {}
        for pair in sizes:
            self.by_kind.setdefault(pair[0], []).append(pair)
        self.known_parts = {}

    def plain_parts(self, kind):
        """The parts, no answer literals, that fit a kind in the elder edition."""
        return [(self.sizes[pair], pair, None) for given in self.by_kind if self.elder_judge.agrees(given, kind)
                for pair in self.by_kind[given]]

    def answer_parts(self, kind):
        """The answer literals that fit a kind in the elder edition: what they answer is no answer literal itself."""
        if kind[0] != "calls":
            return []
        return [(size + 1, pair, len(kind[1])) for size, pair, _ in self.plain_parts(kind[2])]

    def parts(self, kind):
        """All parts that fit a kind in the elder edition, the least first."""
        if kind not in self.known_parts:
            found = self.plain_parts(kind) + self.answer_parts(kind)
            self.known_parts[kind] = sorted(found, key=lambda part: part[0])
        return self.known_parts[kind]

    def fits_later(self, part, kind):
        """Whether a part fits a kind in the newer edition."""
        _, pair, count = part
        given = pair[1] if count is None else ("answers", count, pair[1])
        return self.newer_judge.agrees(given, kind)

    def least(self, kind):
        """The least part that fits a kind in the elder edition, or None."""
        parts = self.parts(kind)
        return parts[0] if parts else None

    def least_unfit(self, kind, other):
        """The least part that fits one kind in the elder and not the other one in the newer edition, or None."""
        for part in self.parts(kind):
            if not self.fits_later(part, other):
                return part
        return None
