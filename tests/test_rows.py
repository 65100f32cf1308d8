"""[23], [24]: relations put together, and the numbers of a row of editions."""

import random
import unittest

from stillruns.breaks import break_size, next_number
from stillruns.editions import Edition
from stillruns.errors import Breaks
from stillruns.papers import relation, relation_holds
from stillruns.rows import numbers, reach, together
from tests.examples import NUM, TEXT, calls, choice, of, record, row, rows_deep
from tests.making import changed_edition, made_couple, made_edition

A, B, C, D = of("a"), of("b"), of("c"), of("d")
PLAIN = [(NUM, NUM), (TEXT, TEXT)]


def doors_of(names, number=(1, 0, 0)):
    """An edition with a door of no parameters for each letter."""
    return Edition([], [(name, (), NUM) for name in names], number=number)


def row_of(*doors, number=(1, 0, 0)):
    """Editions with these doors; all but the first one with a number that nobody asks for."""
    return [doors_of(doors[0], number)] + [doors_of(each, (77, 7, 7)) for each in doors[1:]]


def made_row(seed, many):
    rng = random.Random(seed)
    editions = [made_edition(rng)]
    while len(editions) < many:
        same = rng.random() < 0.2
        editions.append(editions[-1] if same else changed_edition(rng, editions[-1]))
    return editions


class Together(unittest.TestCase):
    def test_a_middle_in_common(self):
        self.assertEqual(together([(A, B)], [(B, C)]), [(A, C)])
        self.assertEqual(together([(NUM, NUM), (A, B), (A, TEXT)], [(B, NUM), (NUM, D), (C, C)]), [(NUM, D), (A, NUM)])

    def test_the_second_of_the_first_and_the_first_of_the_second(self):
        self.assertEqual(together([(A, B)], [(C, B)]), [])
        self.assertEqual(together([(B, A)], [(B, C)]), [])
        self.assertEqual(together([(B, C)], [(A, B)]), [])

    def test_no_middle_in_common(self):
        self.assertEqual(together([(A, B), (A, A)], [(C, D), (D, B)]), [])
        self.assertEqual(together([(A, row(B))], [(B, C)]), [])

    def test_empty_ones(self):
        self.assertEqual(together([], []), [])
        self.assertEqual(together([(A, B)], []), [])
        self.assertEqual(together([], [(A, B)]), [])

    def test_each_once_and_sorted(self):
        self.assertEqual(together([(A, B), (A, B)], [(B, C), (B, C)]), [(A, C)])
        self.assertEqual(together([(A, B), (A, C)], [(C, D), (B, D)]), [(A, D)])
        self.assertEqual(together([(TEXT, B), (row(A), B), (NUM, B)], [(B, TEXT), (B, D), (B, calls([], D))]),
                         sorted((one, other) for one in (TEXT, row(A), NUM) for other in (TEXT, D, calls([], D))))

    def test_every_middle_with_all_behind_it(self):
        self.assertEqual(together([(A, B), (C, B)], [(B, A), (B, D)]), [(A, A), (A, D), (C, A), (C, D)])

    def test_any_kinds(self):
        deep, other = rows_deep(5), calls([row(A), TEXT, calls([], NUM)], rows_deep(4))
        self.assertEqual(together([(deep, other)], [(other, deep)]), [(deep, deep)])

    def test_four_hundred_rows(self):
        kinds = [of(one + other) for one in "abcdefghijklmnopqrst" for other in "abcdefghijklmnopqrst"]
        self.assertEqual(together([(kind, A) for kind in kinds], [(A, B)] * 400), [(kind, B) for kind in kinds])
        self.assertEqual(together([(kind, kind) for kind in kinds], [(kind, A) for kind in reversed(kinds)]),
                         [(kind, A) for kind in kinds])

    def test_what_was_handed_in_stays_and_what_is_told_is_new(self):
        one, other = [(B, A), (A, B), (A, B)], [(B, C), (A, C)]
        kept = list(one), list(other)
        told = together(one, other)
        self.assertEqual((one, other), kept)
        told.append("x")
        one.clear()
        other.append((C, C))
        self.assertEqual(together(*kept), [(A, C), (B, C)])
        self.assertEqual(together(other=kept[1], one=kept[0]), [(A, C), (B, C)])
        same = [(A, A)]
        self.assertIsNot(together(same, same), same)


class LetBy(unittest.TestCase):
    """What two relations put together say of three editions."""

    def test_of_relations_that_are_told(self):
        found = 0
        for seed in range(400):
            first, second = made_couple(seed)
            third = changed_edition(random.Random(seed + 1), second)
            try:
                one, other = relation(first, second), relation(second, third)
            except Breaks:
                continue
            found += 1
            with self.subTest(seed=seed):
                self.assertTrue(relation_holds(first, third, together(one, other)))
                self.assertIsNone(break_size(first, third))
                self.assertTrue(set(relation(first, third)) <= set(together(one, other)))
        self.assertGreater(found, 20)

    def test_of_relations_that_are_laid(self):
        """Pairs that no term has stand in them, too."""
        found = 0
        for seed in range(200):
            rng = random.Random(seed)
            editions = made_row(seed, 3)
            names = [of(name) for name, _ in editions[0].kinds()]
            laid = []
            for elder, newer in zip(editions, editions[1:]):
                try:
                    more = [(kind, rng.choice(names)) for kind in names for _ in range(2)]
                    rows = [rows for rows in (relation(elder, newer) + more, relation(elder, newer) + more[:1])
                            if relation_holds(elder, newer, rows)]
                except Breaks:
                    rows = []
                laid.append(rows[0] if rows else None)
            if None in laid:
                continue
            found += 1
            self.assertTrue(relation_holds(editions[0], editions[2], together(*laid)), seed)
        self.assertGreater(found, 10)

    def test_one_that_is_not_let_by(self):
        first, second, third = row_of("f", "fg", "g")
        self.assertTrue(relation_holds(first, second, PLAIN))
        self.assertFalse(relation_holds(second, third, PLAIN))
        self.assertFalse(relation_holds(first, third, together(PLAIN, PLAIN)))


class Numbers(unittest.TestCase):
    def test_a_row_of_one(self):
        self.assertEqual(numbers([doors_of("f", (4, 0, 9))]), [(4, 0, 9)])
        self.assertEqual(numbers([Edition([], [])]), [(1, 0, 0)])

    def test_each_by_the_one_ahead_with_the_number_that_it_was_told(self):
        editions = row_of("f", "f", "fg", "fg", "g", "g", "gh", "", number=(2, 5, 3))
        self.assertEqual(numbers(editions), [(2, 5, 3), (2, 5, 4), (2, 6, 0), (2, 6, 1), (3, 0, 0), (3, 0, 1),
                                             (3, 1, 0), (4, 0, 0)])

    def test_two(self):
        self.assertEqual(numbers(row_of("f", "")), [(1, 0, 0), (2, 0, 0)])
        self.assertEqual(numbers(row_of("", "f", number=(0, 0, 0))), [(0, 0, 0), (0, 1, 0)])
        self.assertEqual(numbers(row_of("f", "f", number=(0, 0, 0))), [(0, 0, 0), (0, 0, 1)])

    def test_great_numbers(self):
        great = 10 ** 60 - 2
        self.assertEqual(numbers(row_of("f", "f", "fg", "", number=(great, great, great))),
                         [(great, great, great), (great, great, great + 1), (great, great + 1, 0), (great + 1, 0, 0)])

    def test_they_rise_by_what_programs_suffer(self):
        for seed in range(40):
            editions = made_row(seed, 8)
            told = numbers(editions)
            self.assertEqual(told[0], editions[0].number)
            for at in range(1, 8):
                with self.subTest(seed=seed, at=at):
                    ahead = editions[at - 1]
                    numbered = Edition(ahead.kinds(), ahead.doors(), number=told[at - 1])
                    self.assertEqual(told[at], next_number(numbered, editions[at]))
                    self.assertEqual(told[at][0] > told[at - 1][0], break_size(ahead, editions[at]) is not None)

    def test_what_was_handed_in_stays_and_what_is_told_is_new(self):
        editions = row_of("f", "fg", "g")
        kept = list(editions)
        told = numbers(editions)
        self.assertEqual(editions, kept)
        self.assertEqual([each.number for each in editions], [(1, 0, 0), (77, 7, 7), (77, 7, 7)])
        told.clear()
        editions.pop()
        self.assertEqual(numbers(editions=kept), [(1, 0, 0), (1, 1, 0), (2, 0, 0)])
        self.assertEqual(numbers(editions), [(1, 0, 0), (1, 1, 0)])


class Reach(unittest.TestCase):
    def test_each_place_of_a_row_of_eight(self):
        editions = row_of("f", "f", "fg", "fg", "g", "g", "gh", "")
        self.assertEqual([reach(editions, at) for at in range(8)],
                         [(3, 4), (3, 4), (3, 4), (3, 4), (6, 7), (6, 7), (6, 7), (7, None)])

    def test_a_row_of_one(self):
        self.assertEqual(reach([doors_of("f")], 0), (0, None))

    def test_nothing_breaks(self):
        editions = row_of("", "f", "fg", "fgh")
        self.assertEqual([reach(editions, at) for at in range(4)], [(3, None)] * 4)

    def test_the_number_rises_by_programs_that_are_not_its_own(self):
        editions = row_of("f", "fg", "f", "fh", "h")
        self.assertEqual([reach(editions, at) for at in range(5)], [(1, 4), (1, 2), (3, 4), (3, 4), (4, None)])
        self.assertEqual(reach(row_of("f", "fg", "f"), 0), (1, None))

    def test_the_first_place_that_breaks_and_not_a_later_one(self):
        self.assertEqual(reach(row_of("f", "", "f", ""), 0), (0, 1))
        self.assertEqual(reach(row_of("", "f", "", "f"), 0), (1, None))

    def test_one_place_behind_breaks_what_the_one_between_had_not(self):
        """A program runs at each second place only."""
        editions = row_of("f", "g", "f", "g")
        self.assertEqual([reach(editions, at) for at in range(4)], [(0, 1), (1, 2), (2, 3), (3, None)])

    def test_own_numbers_of_the_editions_mean_nothing(self):
        editions = [doors_of("f", (9, 0, 0)), doors_of("fg", (1, 0, 0)), doors_of("fg", (50, 0, 0)), doors_of("")]
        self.assertEqual([reach(editions, at) for at in range(4)], [(2, 3), (2, 3), (2, 3), (3, None)])

    def test_of_kinds_as_of_doors(self):
        shut = Edition([("c", choice(("x", None)))], [("f", (), of("c"))])
        wide = Edition([("c", choice(("x", None), ("y", None)))], [("f", (), of("c"))])
        needed = Edition([("c", record())], [("f", (("n", of("c"), True),), NUM)])
        self.assertEqual(reach([shut, shut, wide], 0), (1, 2))
        self.assertEqual(reach([wide, needed, needed], 0), (0, 1))
        self.assertEqual(reach([wide, needed, needed], 1), (2, None))

    def test_by_the_numbers_and_by_what_breaks(self):
        for seed in range(40):
            editions = made_row(seed, 8)
            told = numbers(editions)
            for at in range(8):
                with self.subTest(seed=seed, at=at):
                    same = [place for place in range(at, 8) if told[place][0] <= told[at][0]]
                    broken = [place for place in range(at + 1, 8)
                              if break_size(editions[at], editions[place]) is not None]
                    last, first = reach(editions, at)
                    self.assertEqual(last, same[-1])
                    self.assertEqual(first, broken[0] if broken else None)
                    self.assertTrue(first is None or first > last)

    def test_calls_by_names_and_again(self):
        editions = row_of("f", "fg", "g")
        kept = list(editions)
        self.assertEqual(reach(editions=editions, at=0), (1, 2))
        self.assertEqual(reach(editions, at=1), (1, 2))
        self.assertEqual(reach(editions, 0), (1, 2))
        self.assertEqual(editions, kept)
        self.assertIsInstance(reach(editions, 2), tuple)


if __name__ == "__main__":
    unittest.main()
