"""[18], [19]: relations and tables, told and judged."""

import inspect
import random
import unittest

from stillruns.breaks import break_size, pairs
from stillruns.editions import Edition
from stillruns.errors import Breaks, Holds, StillError
from stillruns.papers import relation, relation_holds, table, table_holds
from tests.examples import (NUM, TEXT, calls, choice, hidden, library, library_doors, library_kinds, of, record,
                            record_of_size, records_in_a_row, row, row_size)
from tests.listing import judged
from tests.making import made_couple

BARE = [(NUM, NUM), (TEXT, TEXT)]
N = ("n", NUM, True)
EMPTY = Edition([], [])


def doors(*told):
    return Edition([], list(told))


def grown():
    """The library with more doors: no program of the library breaks."""
    return Edition(library_kinds(), library_doors() + [("more", (), NUM)])


class Case(unittest.TestCase):
    def refused(self, wanted, what, asked, *told):
        with self.assertRaises(wanted) as caught:
            asked(*told)
        self.assertIs(type(caught.exception), wanted)
        self.assertEqual(caught.exception.what, what)

    def holds(self, truth, elder, newer, rows):
        self.assertIs(relation_holds(elder, newer, rows), truth)

    def lets_by(self, truth, elder, newer, rows, bound):
        self.assertIs(table_holds(elder, newer, rows, bound=bound), truth)


class RelationTold(Case):
    def test_all_pairs_sorted(self):
        self.assertEqual(relation(EMPTY, EMPTY), BARE)
        elder, newer = library(), grown()
        told = relation(elder, newer)
        self.assertEqual(told, [pair for pair, _ in pairs(elder, newer)])
        self.assertEqual(told, sorted(told))
        self.assertIn((of("dog"), of("dog")), told)
        self.holds(True, elder, newer, told)

    def test_of_unlike_kinds(self):
        elder = Edition([("up", hidden()), ("low", hidden("up"))],
                        [("e", (), of("up")), ("d", (("x", of("up"), True),), NUM)])
        newer = Edition(elder.kinds(), [("e", (), of("low")), elder.doors()[1]])
        self.assertEqual(relation(elder, newer), sorted(BARE + [(of("up"), of("low"))]))
        self.holds(True, elder, newer, relation(elder, newer))

    def test_refused_with_the_least_size(self):
        self.refused(Breaks, 1, relation, doors(("d", (), NUM)), EMPTY)
        self.refused(Breaks, 2, relation, doors(("d", (N,), NUM)), EMPTY)
        kinds = records_in_a_row(12)
        self.refused(Breaks, row_size(11), relation, Edition(kinds, []), Edition(kinds[:-1], []))
        self.refused(Breaks, 1, relation, grown(), library())

    def test_the_refusals_stand_straight_under_still_error(self):
        self.assertEqual(Breaks.__bases__, (StillError,))
        self.assertEqual(Holds.__bases__, (StillError,))

    def test_new_and_the_askers_own(self):
        elder, newer = library(), grown()
        told = relation(elder, newer)
        self.assertIs(type(told), list)
        wanted = list(told)
        told.clear()
        self.assertEqual(relation(elder=elder, newer=newer), wanted)
        self.assertEqual(elder, library())
        self.assertEqual(newer, grown())


class RelationJudged(Case):
    def test_each_pair_told_is_asked_for(self):
        elder, newer = library(), grown()
        told = relation(elder, newer)
        for at in range(len(told)):
            with self.subTest(pair=told[at]):
                self.holds(False, elder, newer, told[:at] + told[at + 1:])

    def test_num_and_text(self):
        self.holds(True, EMPTY, EMPTY, BARE)
        self.holds(False, EMPTY, EMPTY, [])
        for at in range(2):
            self.holds(False, EMPTY, EMPTY, BARE[at:at + 1])
        self.holds(False, EMPTY, EMPTY, [(NUM, TEXT), (TEXT, NUM)])

    def test_any_order_and_told_twice(self):
        elder, newer = library(), grown()
        told = relation(elder, newer)
        self.holds(True, elder, newer, told[::-1])
        self.holds(True, elder, newer, told + told)
        self.holds(True, EMPTY, EMPTY, BARE + BARE[:1])

    def test_where_a_term_breaks_none_is_let_by(self):
        elder, newer = grown(), library()
        told = [pair for pair, _ in pairs(elder, newer)]
        self.holds(False, elder, newer, told)
        kinds = {kind for pair in told for kind in pair}
        self.holds(False, elder, newer, [(one, other) for one in kinds for other in kinds])

    def test_pairs_told_besides(self):
        edition = doors(("d", (N,), TEXT), ("r", (("x", row(NUM), False),), NUM))
        self.holds(True, edition, edition, BARE)
        # What such a part could be, and what could be built of it, counts, though no term has the pair.
        self.holds(True, edition, edition, BARE + [(of("a"), NUM)])
        self.holds(True, edition, edition, BARE + [(TEXT, NUM)])
        self.holds(False, edition, edition, BARE + [(NUM, TEXT)])
        self.holds(False, edition, edition, BARE + [(NUM, row(NUM))])
        self.holds(True, edition, edition, BARE + [(row(NUM), row(NUM))])
        self.holds(False, edition, edition, BARE + [(row(TEXT), row(NUM))])
        self.holds(True, edition, edition, BARE + [(row(TEXT), row(NUM)), (TEXT, NUM)])
        self.holds(False, edition, edition, BARE + [(row(NUM), NUM)])

    def test_kinds_that_no_edition_has(self):
        ghost, other = of("ghost"), of("spook")
        self.holds(True, EMPTY, EMPTY, BARE + [(ghost, other)])
        self.holds(True, EMPTY, EMPTY, BARE + [(ghost, calls([], NUM))])
        self.holds(False, EMPTY, EMPTY, BARE + [(row(ghost), row(other))])
        self.holds(True, EMPTY, EMPTY, BARE + [(row(ghost), row(other)), (ghost, other)])
        self.holds(False, EMPTY, EMPTY, BARE + [(row(ghost), other)])
        asked = (calls([ghost], NUM), calls([other], NUM))
        self.holds(True, EMPTY, EMPTY, BARE + [asked])
        self.holds(True, EMPTY, EMPTY, BARE + [asked, (ghost, other)])
        self.holds(False, EMPTY, EMPTY, BARE + [asked, (ghost, ghost)])

    def test_a_step_without_parts_asks_nothing(self):
        elder = Edition([("h", hidden())], [("d", (("x", of("h"), True), N), row(NUM)),
                                            ("e", (("x", of("h"), False), N), TEXT)])
        newer = Edition([("h", hidden())], [("e", (N,), TEXT)])
        self.holds(True, elder, newer, BARE)
        self.holds(False, elder, newer, BARE + [(of("h"), of("h"))])
        one_more = Edition([("h", hidden())], elder.doors()[:1] + newer.doors())
        self.holds(False, one_more, one_more, BARE + [(of("h"), of("h"))])
        self.holds(True, one_more, one_more, BARE + [(of("h"), of("h")), (row(NUM), row(NUM))])

    def test_heads(self):
        kinds = [("a", record(("x", NUM, False))), ("c", choice(("x", NUM), ("y", None)))]
        elder = Edition(kinds, [])
        told = relation(elder, elder)
        self.assertEqual(told, sorted(BARE + [(of("a"), of("a")), (of("c"), of("c")), (row(NUM), row(NUM))]))
        for newer in (Edition([("a", record()), kinds[1]], []), Edition([kinds[0], ("c", choice(("y", None)))], []),
                      Edition([kinds[0], ("c", choice(("x", NUM), ("y", None), shut=False))], []),
                      Edition([kinds[0], ("c", choice(("x", NUM), ("y", None), ("z", None)))], [])):
            self.holds(False, elder, newer, told)
        self.holds(False, elder, elder, told + [(of("a"), of("c"))])
        self.holds(False, elder, elder, told + [(of("c"), of("a"))])
        self.holds(True, elder, elder, told + [(of("b"), of("a"))])
        self.holds(False, elder, elder, told + [(of("a"), of("b"))])

    def test_callbacks(self):
        asked = (calls([NUM], TEXT), calls([NUM], TEXT))
        self.holds(True, EMPTY, EMPTY, BARE + [asked])
        self.holds(True, EMPTY, EMPTY, BARE + [(calls([row(NUM)], TEXT), calls([], NUM))])
        for other in (NUM, calls([], TEXT), calls([NUM, NUM], TEXT), calls([TEXT], TEXT), calls([NUM], NUM)):
            self.holds(False, EMPTY, EMPTY, BARE + [(asked[0], other)])
        self.holds(False, EMPTY, EMPTY, BARE + [asked, (NUM, TEXT)])

    def test_answer_literals_are_parts(self):
        elder = doors(("d", (("f", calls([TEXT], NUM), True),), NUM))
        self.holds(True, elder, elder, BARE)
        newer = doors(("d", (("f", calls([TEXT], TEXT), True),), NUM))
        self.holds(False, elder, newer, BARE)
        newer = doors(("d", (("f", calls([TEXT, TEXT], NUM), True),), NUM))
        self.holds(False, elder, newer, BARE)
        free = Edition([("h", hidden())], [("d", (("f", calls([], of("h")), True),), NUM)])
        gone = Edition([("h", hidden())], [])
        self.holds(True, free, gone, BARE)
        self.holds(False, free, gone, BARE + [(of("h"), of("h"))])
        self.holds(False, free, gone, BARE + [(calls([], of("h")), NUM)])
        self.holds(False, free, free, BARE + [(of("h"), NUM)])

    def test_what_is_handed_in_stays(self):
        rows = BARE[::-1] + BARE
        before = list(rows)
        self.assertIs(relation_holds(elder=EMPTY, newer=EMPTY, rows=rows), True)
        self.assertEqual(rows, before)
        rows.clear()
        self.holds(True, EMPTY, EMPTY, before)


class TableTold(Case):
    def test_the_rows_below_the_least_break(self):
        kinds, name = record_of_size(9)
        elder = Edition(kinds, [("gone", (("x", of("b"), True), ("y", of("b"), True)), TEXT)])
        newer = Edition(kinds, [])
        least = break_size(elder, newer)
        self.assertEqual(least, 9)
        told = table(elder, newer)
        self.assertEqual(told, [(pair, many) for pair, many in pairs(elder, newer) if many < least])
        self.assertNotIn(of(name), [pair[0] for pair, _ in told])
        self.assertIn(((of("b"), of("b")), 4), told)
        self.lets_by(True, elder, newer, told, least)
        self.lets_by(False, elder, newer, told, least + 1)

    def test_of_a_break_of_one(self):
        elder = doors(("d", (), NUM))
        self.assertEqual(table(elder, EMPTY), [])
        self.lets_by(True, elder, EMPTY, [], 1)
        self.lets_by(False, elder, EMPTY, [], 2)

    def test_refused_where_none_breaks(self):
        self.refused(Holds, None, table, EMPTY, EMPTY)
        self.refused(Holds, None, table, library(), grown())
        self.refused(Holds, None, table, library(), library())

    def test_of_great_breaks(self):
        kinds = records_in_a_row(12)
        elder, newer = Edition(kinds, []), Edition(kinds[:-1], [])
        told = table(elder, newer)
        self.assertEqual(len(told), 13)
        self.lets_by(True, elder, newer, told, row_size(11))
        self.lets_by(False, elder, newer, told, row_size(11) + 1)

    def test_new_and_the_askers_own(self):
        elder = library()
        newer = Edition(library_kinds(), [each for each in library_doors() if each[0] != "add"])
        told = table(elder, newer)
        self.assertGreater(len(told), 5)
        self.assertIs(type(told), list)
        self.assertEqual(told, sorted(told))
        wanted = list(told)
        told.append(told.pop(0))
        self.assertEqual(table(elder=elder, newer=newer), wanted)


class TableJudged(Case):
    def setUp(self):
        # r is 2, k 3, and d, which breaks, 5.
        self.elder = doors(("r", (N,), row(TEXT)), ("d", (("x", row(TEXT), True), ("y", TEXT, True), N), NUM),
                           ("k", (("x", row(TEXT), True),), calls([NUM], row(NUM))))
        self.newer = doors(("r", (N,), row(TEXT)), ("k", (("x", row(TEXT), True),), calls([NUM], row(NUM))))
        self.told = table(self.elder, self.newer)
        self.least = break_size(self.elder, self.newer)

    def test_what_is_told(self):
        back = calls([NUM], row(NUM))
        self.assertEqual(self.least, 5)
        self.assertEqual(self.told, sorted([((NUM, NUM), 1), ((TEXT, TEXT), 1), ((row(TEXT), row(TEXT)), 2),
                                            ((back, back), 3)]))

    def test_bounds(self):
        for bound in (-10 ** 59, -1, 0, 1, 2, 3, 4, 5):
            self.lets_by(True, self.elder, self.newer, self.told, bound)
        for bound in (6, 7, 100, 10 ** 59):
            self.lets_by(False, self.elder, self.newer, self.told, bound)

    def test_a_size_one_more_or_less(self):
        for at, (pair, size) in enumerate(self.told):
            more = self.told[:at] + [(pair, size + 1)] + self.told[at + 1:]
            less = self.told[:at] + [(pair, size - 1)] + self.told[at + 1:]
            with self.subTest(pair=pair):
                self.lets_by(False, self.elder, self.newer, more, size + 1)
                self.lets_by(True, self.elder, self.newer, more, size)
                self.lets_by(False, self.elder, self.newer, more, 5)
                self.assertIs(table_holds(self.elder, self.newer, less, bound=5),
                              judged(self.elder, self.newer, dict(less), 5))
        # With a text of nought d breaks with 4.
        less = [(pair, 0 if pair == (TEXT, TEXT) else size) for pair, size in self.told]
        self.lets_by(True, self.elder, self.newer, less, 4)
        self.lets_by(False, self.elder, self.newer, less, 5)

    def test_a_row_left_out(self):
        for at, (pair, size) in enumerate(self.told):
            rest = self.told[:at] + self.told[at + 1:]
            with self.subTest(pair=pair):
                self.lets_by(True, self.elder, self.newer, rest, size)
                self.lets_by(False, self.elder, self.newer, rest, size + 1)

    def test_a_pair_twice(self):
        for pair, size in self.told:
            for other in (size, size + 1, 0):
                for bound in (-5, 0, 1, 5):
                    self.lets_by(False, self.elder, self.newer, self.told + [(pair, other)], bound)

    def test_any_order(self):
        self.lets_by(True, self.elder, self.newer, self.told[::-1], 5)

    def test_rows_told_besides(self):
        ghost = (of("ghost"), of("spook"))
        for size in (-9, 0, 1, 9):
            self.lets_by(True, self.elder, self.newer, self.told + [(ghost, size)], 5)
        # A row of texts that is a num in the newer edition: r's argument breaks with it, one does, too.
        self.lets_by(False, self.elder, self.newer, self.told + [((row(TEXT), NUM), 3)], 5)
        self.lets_by(True, self.elder, self.newer, self.told + [((row(TEXT), NUM), 3)], 4)
        self.lets_by(True, self.elder, self.newer, self.told + [((row(TEXT), NUM), 4)], 5)

    def test_num_and_text_are_of_no_parts(self):
        self.lets_by(True, EMPTY, EMPTY, [], 1)
        self.lets_by(False, EMPTY, EMPTY, [], 2)
        self.lets_by(True, EMPTY, EMPTY, [((NUM, NUM), 1), ((TEXT, TEXT), 1)], 10 ** 59)
        self.lets_by(True, EMPTY, EMPTY, [((NUM, NUM), 0), ((TEXT, TEXT), -1)], 10 ** 59)
        self.lets_by(False, EMPTY, EMPTY, [((NUM, NUM), 1), ((TEXT, TEXT), 2)], 2)

    def test_answer_literals_are_one_and_their_parts_size(self):
        elder = doors(("d", (("f", calls([], NUM), True),), NUM))
        told = [((NUM, NUM), 1), ((TEXT, TEXT), 1)]
        self.lets_by(True, elder, EMPTY, told, 3)
        self.lets_by(False, elder, EMPTY, told, 4)
        self.lets_by(True, elder, elder, told, 100)
        row_of = doors(("d", (("f", calls([], NUM), True),), row(NUM)))
        self.lets_by(True, row_of, row_of, told, 3)
        self.lets_by(False, row_of, row_of, told, 4)
        self.lets_by(True, row_of, row_of, told + [((row(NUM), row(NUM)), 3)], 100)
        self.lets_by(False, row_of, row_of, told + [((row(NUM), row(NUM)), 4)], 100)

    def test_sizes_below_nought(self):
        elder = doors(("d", (("n", NUM, False), ("t", TEXT, True)), row(NUM)))
        told = [((NUM, NUM), -3), ((TEXT, TEXT), 1), ((row(NUM), row(NUM)), -1)]
        # With the num that may be left out d is -1; one of that row is 0.
        self.lets_by(True, elder, elder, told, 100)
        self.lets_by(False, elder, elder, told[:2] + [((row(NUM), row(NUM)), 0)], 100)
        self.lets_by(True, elder, elder, told[:2] + [((row(NUM), row(NUM)), 0)], -1)
        newer = doors(("d", (("n", NUM, True), ("t", TEXT, True)), row(NUM)))
        self.lets_by(True, elder, newer, told, 2)
        self.lets_by(False, elder, newer, told, 3)

    def test_the_bound_by_its_name_alone(self):
        self.assertEqual(str(inspect.signature(table_holds)), "(elder, newer, rows, *, bound)")
        with self.assertRaises(TypeError):
            table_holds(EMPTY, EMPTY, [], 1)
        with self.assertRaises(TypeError):
            table_holds(EMPTY, EMPTY, [])
        self.assertIs(table_holds(elder=EMPTY, newer=EMPTY, rows=[], bound=1), True)

    def test_what_is_handed_in_stays(self):
        rows = list(self.told)
        for bound in (5, 6):
            table_holds(self.elder, self.newer, rows, bound=bound)
        self.assertEqual(rows, self.told)
        self.assertEqual(table(self.elder, self.newer), self.told)


class AnyPapers(Case):
    """Papers near those that are told, judged besides by putting each step together of all parts."""

    def near(self, rng, rows):
        rows = list(rows)
        pool = sorted({kind for pair, _ in rows for kind in pair} | {of("ghost"), row(NUM), row(of("ghost")),
                                                                     calls([], of("a")), calls([of("ghost")], NUM)})
        for _ in range(rng.choice([0, 1, 1, 2, 3])):
            place = rng.random()
            at = rng.randrange(len(rows)) if rows else 0
            if rows and place < 0.3:
                rows.pop(at)
            elif rows and place < 0.6:
                rows[at] = (rows[at][0], rows[at][1] + rng.choice([-3, -1, 1]))
            else:
                rows.append(((rng.choice(pool), rng.choice(pool)), rng.randint(-2, 5)))
        rng.shuffle(rows)
        return rows

    def test_of_made_editions(self):
        seen = set()
        for seed in range(600):
            elder, newer = made_couple(seed)
            rng = random.Random(seed)
            rows = self.near(rng, pairs(elder, newer))
            if len(rows) > 9:
                continue
            told = dict(rows)
            bound = (break_size(elder, newer) or 5) + rng.choice([-1, 0, 0, 1])
            with self.subTest(seed=seed):
                truth = relation_holds(elder, newer, [pair for pair, _ in rows])
                self.assertIs(truth, judged(elder, newer, {pair: 0 for pair in told}, None))
                seen.add(("relation", truth))
                truth = table_holds(elder, newer, rows, bound=bound)
                self.assertIs(truth, len(told) == len(rows) and judged(elder, newer, told, bound))
                seen.add(("table", truth))
        self.assertEqual(len(seen), 4)


if __name__ == "__main__":
    unittest.main()
