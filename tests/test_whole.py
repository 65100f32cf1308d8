"""[4], and of [14] to [19] that what is told as least is: all terms of small sizes in small editions are listed."""

import random
import unittest

from stillruns.breaks import break_size, least_break, next_number, pairs
from stillruns.bridges import bridged, lost_doors, unfolded
from stillruns.desk import Desk
from stillruns.editions import Edition, fits
from stillruns.errors import Breaks, Holds, NoKind, TooGreat
from stillruns.least import least, sizes
from stillruns.papers import relation, relation_holds, table, table_holds
from stillruns.readings import read_edition
from stillruns.rows import numbers, reach, together
from stillruns.terms import breaks, kind_of, runs, size
from stillruns.texts import show_edition
from tests.examples import library, library_doors, library_kinds
from tests.listing import listed
from tests.making import changed_edition, made_couple

MOST = 5
SEEDS = range(150)


def least_of(rows):
    """The least sizes of what stands in rows (thing, size)."""
    told = {}
    for thing, many in rows:
        told[thing] = min(many, told.get(thing, many))
    return told


def up_to(rows, most):
    return {thing: many for thing, many in rows if many <= most}


def newer_kind(edition, term):
    try:
        return kind_of(edition, term)
    except NoKind:
        return None


class Listed(unittest.TestCase):
    """Against all terms up to a size."""

    def setUp(self):
        self.couples = [(seed, *made_couple(seed)) for seed in SEEDS]

    def test_sizes_and_least_programs(self):
        for seed, elder, _ in self.couples:
            with self.subTest(seed=seed):
                wanted = least_of([(kind, many) for many, kind, _ in listed(elder, MOST) if kind[0] != "answers"])
                told = sizes(elder)
                self.assertEqual(up_to(told, MOST), wanted)
                for kind, many in told:
                    term = least(elder, kind)
                    self.assertEqual(kind_of(elder, term), kind)
                    self.assertEqual(size(term), many)
                    self.assertEqual(least(elder, kind, limit=many), term)
                    if many > 1:
                        with self.assertRaises(TooGreat) as caught:
                            least(elder, kind, limit=many - 1)
                        self.assertEqual(caught.exception.what, many)

    def test_pairs(self):
        for seed, elder, newer in self.couples:
            with self.subTest(seed=seed):
                rows = [((kind, newer_kind(newer, term)), many) for many, kind, term in listed(elder, MOST)
                        if kind[0] != "answers" and runs(newer, term)]
                self.assertEqual(up_to(pairs(elder, newer), MOST), least_of(rows))

    def test_least_breaks(self):
        seen = set()
        for seed, elder, newer in self.couples:
            with self.subTest(seed=seed):
                broken = [many for many, _, term in listed(elder, MOST) if breaks(elder, newer, term)]
                told = break_size(elder, newer)
                seen.add(told)
                if broken:
                    self.assertEqual(told, min(broken))
                elif told is not None:
                    self.assertGreater(told, MOST)
        self.assertGreater(len(seen), 4)


class Told(unittest.TestCase):
    """Just one of a relation and a break is told, and what is told is let by."""

    def broken(self, elder, newer, told):
        term = least_break(elder, newer)
        self.assertEqual(size(term), told)
        self.assertTrue(breaks(elder, newer, term))
        rows = table(elder, newer)
        self.assertTrue(table_holds(elder, newer, rows, bound=told))
        self.assertFalse(table_holds(elder, newer, rows, bound=told + 1))
        self.assertFalse(relation_holds(elder, newer, [pair for pair, _ in pairs(elder, newer)]))
        with self.assertRaises(Breaks) as caught:
            relation(elder, newer)
        self.assertEqual(caught.exception.what, told)

    def held(self, elder, newer):
        self.assertIsNone(least_break(elder, newer))
        rows = relation(elder, newer)
        self.assertEqual(rows, [pair for pair, _ in pairs(elder, newer)])
        self.assertTrue(relation_holds(elder, newer, rows))
        for at in range(len(rows)):
            self.assertFalse(relation_holds(elder, newer, rows[:at] + rows[at + 1:]))
        for bound in (1, 50):
            self.assertTrue(table_holds(elder, newer, pairs(elder, newer), bound=bound))
        with self.assertRaises(Holds) as caught:
            table(elder, newer)
        self.assertIsNone(caught.exception.what)

    def test_just_one(self):
        held = 0
        for seed in range(300):
            elder, newer = made_couple(seed)
            told = break_size(elder, newer)
            with self.subTest(seed=seed):
                if told is None:
                    held += 1
                    self.held(elder, newer)
                else:
                    self.broken(elder, newer, told)
        self.assertTrue(50 < held < 250)

    def test_the_number_follows(self):
        for seed in range(100):
            elder, newer = made_couple(seed)
            with self.subTest(seed=seed):
                if break_size(elder, newer) is not None:
                    wanted = (2, 0, 0)
                else:
                    wanted = (1, 0, 1) if break_size(newer, elder) is None else (1, 1, 0)
                self.assertEqual(next_number(elder, newer), wanted)

    def test_what_breaks_nowhere_twice_breaks_nowhere_at_once(self):
        found = 0
        for seed in range(400):
            first, second = made_couple(seed)
            third = changed_edition(random.Random(seed + 1), second)
            if break_size(first, second) is None and break_size(second, third) is None:
                found += 1
                self.assertIsNone(break_size(first, third), seed)
        self.assertGreater(found, 20)


class Mended(unittest.TestCase):
    """What runs under a bridged edition runs, unfolded, under the newer one, and gives what fits."""

    def bridge_of(self, elder, newer):
        """A bridge of the lost doors that can be bridged by a least program of their answer."""
        rows = {name: (parameters, answer) for name, parameters, answer in elder.doors()}
        bridge = []
        for name in lost_doors(elder, newer):
            parameters, answer = rows[name]
            needed = [(parameter, kind) for parameter, kind, must in parameters if must]
            fitting = [("hole", parameter) for parameter, kind in needed if fits(newer, kind, answer)]
            template = fitting[0] if fitting else least(newer, answer)
            if template is not None and not any(kind[0] == "calls" for _, kind, _ in parameters):
                bridge.append((name, parameters, answer, template))
        return bridge

    def test_programs_of_bridged_editions(self):
        whole = changed = 0
        for seed in range(150):
            elder = made_couple(seed)[0]
            rng = random.Random(seed)
            kept = [door for door in elder.doors() if rng.random() < 0.4]
            newer = Edition(elder.kinds(), kept, number=(2, 0, 0))
            bridge = self.bridge_of(elder, newer)
            if not bridge:
                continue
            with self.subTest(seed=seed):
                over = bridged(newer, bridge)
                if not lost_doors(elder, over):
                    whole += 1
                    self.assertTrue(relation_holds(elder, over, relation(elder, over)))
                    self.assertIsNone(least_break(elder, over))
                for _, kind, term in listed(over, 3):
                    told = unfolded(bridge, term)
                    changed += told != term
                    self.assertTrue(fits(newer, kind_of(newer, told), kind))
        self.assertGreater(whole, 20)
        self.assertGreater(changed, 500)


class Three(unittest.TestCase):
    """Three editions that were written and read: relations, numbers and the desk tell the same of them."""

    def told(self, elder, newer):
        try:
            return relation(elder, newer)
        except Breaks:
            return None

    def test_relations_put_together_and_numbers(self):
        held = broken = 0
        for seed in range(200):
            first, second = made_couple(seed)
            third = changed_edition(random.Random(seed + 2), second)
            row = [read_edition(show_edition(edition)) for edition in (first, second, third)]
            one, other, both = self.told(*row[:2]), self.told(*row[1:]), self.told(first, third)
            with self.subTest(seed=seed):
                majors = [number[0] for number in numbers(row)]
                self.assertEqual(majors, [1, 2 - (one is not None), 3 - (one is not None) - (other is not None)])
                self.assertEqual(reach(row, 0)[1], 1 if one is None else 2 if both is None else None)
                if one is not None and other is not None:
                    held += 1
                    self.assertTrue(relation_holds(first, third, together(one, other)))
                    self.assertEqual(reach(row, 0), (2, None))
                if one is None or other is None:
                    broken += 1
                    self.assertEqual(reach(row, 0)[0], 0 if one is None else 1)
        self.assertGreater(held, 10)
        self.assertGreater(broken, 50)

    def test_the_desk_tells_just_one_of_two(self):
        for seed in range(60):
            elder, newer = made_couple(seed)
            desk = Desk()
            desk.say("edition old " + show_edition(elder))
            desk.say("edition new " + show_edition(newer))
            with self.subTest(seed=seed):
                told = self.told(elder, newer)
                if told is None:
                    self.assertEqual(desk.say("break old new").split(" ")[0], str(break_size(elder, newer)))
                    self.assertEqual(desk.say("number old new"), "2.0.0")
                else:
                    self.assertEqual(desk.say("break old new"), "none")
                    self.assertEqual(desk.say("pairs old new"), str(len(told)))


class Again(unittest.TestCase):
    def answers(self, elder, newer):
        told = [sizes(elder), pairs(elder, newer), least_break(elder, newer), next_number(elder, newer)]
        told += [numbers([elder, newer]), reach([newer, elder], 0), show_edition(elder), lost_doors(elder, newer)]
        told += [least(elder, kind) for kind, _ in sizes(elder)]
        try:
            told += [relation(elder, newer)]
        except Breaks as refusal:
            told += [refusal.what, table(elder, newer)]
        return told

    def test_whatever_was_asked_between(self):
        couples = [made_couple(seed) for seed in range(40)]
        first = [self.answers(elder, newer) for elder, newer in couples]
        again = [self.answers(elder, newer) for elder, newer in reversed(couples)]
        self.assertEqual(again[::-1], first)
        anew = [self.answers(*made_couple(seed)) for seed in range(40)]
        self.assertEqual(anew, first)

    def test_lists_that_are_told_are_new_ones(self):
        elder, newer = library(), Edition(library_kinds(), library_doors()[1:])
        for asked in (lambda: sizes(elder), lambda: pairs(elder, newer), lambda: table(elder, newer),
                      lambda: relation(newer, elder), lambda: numbers([elder, newer]),
                      lambda: together(relation(elder, elder), relation(elder, elder)),
                      lambda: lost_doors(elder, newer), newer.kinds, newer.doors):
            told = asked()
            wanted = list(told)
            told.clear()
            self.assertEqual(asked(), wanted)
            self.assertIsNot(asked(), asked())
        self.assertEqual((elder, newer), (library(), Edition(library_kinds(), library_doors()[1:])))


if __name__ == "__main__":
    unittest.main()
