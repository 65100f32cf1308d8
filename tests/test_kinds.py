"""[5]: kinds and their depth."""

import unittest

from stillruns.kinds import depth
from tests.examples import NUM, TEXT, calls, of, row, rows_deep


class Depth(unittest.TestCase):
    def test_kinds_with_no_kind_within(self):
        for kind in (NUM, TEXT, of("dog")):
            self.assertEqual(depth(kind), 1)

    def test_rows(self):
        for levels in range(1, 12):
            self.assertEqual(depth(rows_deep(levels)), levels)

    def test_calls_count_the_deepest_of_kinds_and_answer(self):
        self.assertEqual(depth(calls([], NUM)), 2)
        self.assertEqual(depth(calls([NUM, TEXT, of("a")], NUM)), 2)
        self.assertEqual(depth(calls([NUM, row(row(TEXT)), row(NUM)], NUM)), 4)
        self.assertEqual(depth(calls([NUM], row(TEXT))), 3)
        self.assertEqual(depth(row(calls([row(NUM)], NUM))), 4)

    def test_answers_are_one_deeper_than_what_they_answer(self):
        self.assertEqual(depth(("answers", 7, NUM)), 2)
        self.assertEqual(depth(("answers", 0, row(NUM))), 3)

    def test_by_name(self):
        self.assertEqual(depth(kind=row(NUM)), 2)


if __name__ == "__main__":
    unittest.main()
