"""[3]: the refusals, their places under StillError and their fields."""

import unittest

from stillruns import errors
from stillruns.errors import NoKind, StillError

WITH_ONE = ("NoEdition", "TooGreat", "Breaks", "Holds", "NoBridge", "NoText", "NoRow", "NoName")


class Errors(unittest.TestCase):
    def test_each_stands_straight_under_still_error(self):
        self.assertEqual(StillError.__bases__, (ValueError,))
        for name in WITH_ONE + ("NoKind",):
            with self.subTest(name):
                self.assertEqual(getattr(errors, name).__bases__, (StillError,))

    def test_one_value_is_kept_as_what(self):
        for name in WITH_ONE:
            for what in ("dog", 201, None, ""):
                with self.subTest(name, what=what):
                    self.assertEqual(getattr(errors, name)(what).what, what)
                    self.assertEqual(getattr(errors, name)(what=what).what, what)

    def test_no_kind_keeps_place_and_fault(self):
        for refusal in (NoKind([0, 2], "args"), NoKind(place=[0, 2], fault="args")):
            self.assertEqual(refusal.place, [0, 2])
            self.assertEqual(refusal.fault, "args")

    def test_no_kind_does_not_keep_the_list_handed_in(self):
        place = [1]
        refusal = NoKind(place, "door")
        place.append(2)
        self.assertEqual(refusal.place, [1])
        refusal.place.append(3)
        self.assertEqual(place, [1, 2])

    def test_each_knows_the_name_of_its_class(self):
        for name in WITH_ONE:
            self.assertEqual(getattr(errors, name)("x").class_name, name)
        self.assertEqual(NoKind([], "door").class_name, "NoKind")
        self.assertEqual(StillError().class_name, "StillError")

    def test_each_is_caught_as_still_error_and_as_value_error(self):
        for name in WITH_ONE:
            with self.assertRaises(StillError):
                raise getattr(errors, name)("x")
        with self.assertRaises(ValueError):
            raise NoKind([], "door")


if __name__ == "__main__":
    unittest.main()
