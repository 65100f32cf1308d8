"""The pairs of kinds that terms have in two editions, found in the order of the sizes of such terms.

So the first pair found that a step can take as a part is the least one, and a step is as little as it can be once
there is something for each of its parts.
"""

from heapq import heappop, heappush

from stillruns.forms import term_of
from stillruns.stock import Judge
from stillruns.ways import answer_way, first_ways, shared_rows, ways_on


class Need:
    """A part that steps need, of kinds that fit one kind in the elder and one in the newer edition."""

    def __init__(self, filler):
        self.filler = filler
        self.waiting = []


class Task:
    """A way whose parts are looked for."""

    def __init__(self, way, needs):
        self.way = way
        self.needs = needs
        self.missing = 0


class Spread:
    """The pairs found so far, and what is still looked for."""

    def __init__(self, elder, newer):
        self.elder = elder
        self.newer = newer
        self.elder_judge = Judge(elder)
        self.newer_judge = Judge(newer)
        self.found = {}
        self.by_kind = {}
        self.needs = {}
        self.vacant = {}
        self.queue = []
        self.queued = 0

    def fill(self):
        """Find all pairs."""
        for way in first_ways(self.elder, self.newer):
            self.take(way)
        while self.queue:
            size, _, pair, task = heappop(self.queue)
            if pair not in self.found:
                self.settle(pair, size, task)

    def settle(self, pair, size, task):
        """Keep a pair with its least size and the task that gives it, and go on from there."""
        self.by_kind.setdefault(pair[0], []).append((len(self.found), pair))
        self.found[pair] = (size, task)
        for way in ways_on(self.elder, self.newer, pair):
            self.take(way)
        for need in self.vacant_for(pair):
            need.filler = pair
            for waiting in need.waiting:
                waiting.missing -= 1
                self.enqueue(waiting)

    def take(self, way):
        """Look for the parts of a way, where terms of it can run in both editions."""
        rows = shared_rows(way)
        if rows is None:
            return
        task = Task(way, {name: self.need(kind, other) for name, kind, other in rows})
        for need in task.needs.values():
            if need.filler is None:
                need.waiting.append(task)
                task.missing += 1
        self.enqueue(task)

    def enqueue(self, task):
        """Queue the pair that a task gives, once there are all its parts."""
        if task.missing > 0:
            return
        size = 1 + sum([self.found[pair][0] for pair in pairs_of(task)])
        self.queued += 1
        heappush(self.queue, (size, self.queued, task.way.gives, task))

    def need(self, kind, other):
        """The need of these kinds, the same one each time."""
        asked = (kind, other)
        if asked not in self.needs:
            need = Need(self.first_found(kind, other))
            self.needs[asked] = need
            if need.filler is None:
                row = self.vacant.setdefault(kind, {})
                row[other] = need
            # Doors and declarations alone ask for callbacks: answer literals are looked for before any pair is found.
            way = answer_way(kind, other)
            if way is not None:
                self.take(way)
        return self.needs[asked]

    def first_found(self, kind, other):
        """The first pair found that fits these kinds, or None."""
        rows = [row for given in self.by_kind if self.elder_judge.agrees(given, kind)
                for row in self.by_kind[given] if self.newer_judge.agrees(row[1][1], other)]
        return min(rows, key=lambda row: row[0])[1] if rows else None

    def vacant_for(self, pair):
        """The needs that this pair is the first one to fit; they are vacant no more."""
        needs = []
        for kind in list(self.vacant):
            if self.elder_judge.agrees(pair[0], kind):
                row = self.vacant[kind]
                fitting = [other for other in row if self.newer_judge.agrees(pair[1], other)]
                needs.extend([row[other] for other in fitting])
                self.vacant[kind] = {other: row[other] for other in row if other not in fitting}
        return needs

    def least_sizes(self):
        """The pairs with their least sizes, without those of answer literals, in the order of sizes."""
        return {pair: self.found[pair][0] for pair in self.found if pair[0][0] != "answers"}

    def terms(self, pairs):
        """Least terms of these pairs and of the pairs of their parts, by the pairs."""
        asked = {}
        waiting = list(pairs)
        while waiting:
            pair = waiting.pop()
            if pair not in asked:
                asked[pair] = True
                waiting.extend(pairs_of(self.found[pair][1]))
        terms = {}
        # What a term has as parts was found ahead of it.
        for pair in self.found:
            if pair in asked:
                _, task = self.found[pair]
                others = {name: terms[task.needs[name].filler] for name in task.needs}
                terms[pair] = term_of(task.way.shape, terms.get(task.way.head), others)
        return terms


def pairs_of(task):
    """The pairs of the parts of a task that misses none."""
    heads = [] if task.way.head is None else [task.way.head]
    return heads + [need.filler for need in task.needs.values()]


def spread(elder, newer):
    """All pairs of two editions."""
    found = Spread(elder, newer)
    found.fill()
    return found
