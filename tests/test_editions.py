"""[6], [7], [8]: declarations, doors, editions and what is refused with NoEdition."""

import unittest

from stillruns.editions import FIRST, Edition
from stillruns.errors import NoEdition
from tests.examples import (NUM, TEXT, calls, choice, hidden, library, library_doors, library_kinds, of, record, row,
                            rows_deep)

GOOD_NAMES = ("a", "z", "ab", "abcdefgh", "nums", "nu", "texts", "tex", "none", "row", "of")
BAD_NAMES = ("", "abcdefghi", "A", "aB", "Dog", "a1", "1", "a_b", "_", "a b", " a", "a ", "a-b", "a.", "{", "`", "num",
             "text", "\xe9", "\xdf")
LETTERS = "abcdefghijklmnopqrstuvwxyz"


class Case(unittest.TestCase):
    def refused(self, what, kinds, doors=()):
        """That an edition of these is refused with NoEdition and this name."""
        with self.assertRaises(NoEdition) as caught:
            Edition(list(kinds), list(doors))
        self.assertIs(type(caught.exception), NoEdition)
        self.assertEqual(caught.exception.what, what)

    def made(self, kinds, doors=()):
        return Edition(list(kinds), list(doors))


class Made(Case):
    def test_an_empty_one(self):
        edition = Edition([], [])
        self.assertEqual(edition.kinds(), [])
        self.assertEqual(edition.doors(), [])
        self.assertEqual(len(edition), 0)
        self.assertEqual(edition.number, (1, 0, 0))

    def test_first(self):
        self.assertEqual(FIRST, (1, 0, 0))

    def test_tells_kinds_and_doors_as_they_were_handed_in(self):
        edition = library()
        self.assertEqual(edition.kinds(), library_kinds())
        self.assertEqual(edition.doors(), library_doors())
        self.assertIsInstance(edition.kinds(), list)
        self.assertIsInstance(edition.doors(), list)
        self.assertEqual(len(edition), 14)

    def test_by_names(self):
        edition = Edition(kinds=library_kinds(), doors=library_doors(), number=(2, 10, 3))
        self.assertEqual(edition.number, (2, 10, 3))
        self.assertEqual(edition.kinds(), library_kinds())

    def test_the_number_by_its_name_alone(self):
        with self.assertRaises(TypeError):
            Edition([], [], (1, 0, 0))
        self.assertEqual(Edition([], [], number=(0, 0, 0)).number, (0, 0, 0))
        great = 10 ** 59
        self.assertEqual(Edition([], [], number=(great, 0, great + 1)).number, (great, 0, great + 1))

    def test_one_name_may_be_both_kind_and_door(self):
        self.made([("dog", hidden())], [("dog", (), NUM)])

    def test_one_name_may_stand_in_several_declarations_and_doors(self):
        rows = (("a", NUM, True),)
        edition = self.made([("a", record(*rows)), ("b", record(*rows)), ("c", choice(("a", None)))],
                            [("a", rows, NUM), ("b", rows, NUM)])
        self.assertEqual(len(edition), 2)


class Lists(Case):
    def test_what_was_handed_in_stays_and_is_not_kept(self):
        kinds, doors = library_kinds(), library_doors()
        edition = Edition(kinds, doors)
        self.assertEqual(kinds, library_kinds())
        self.assertEqual(doors, library_doors())
        kinds.clear()
        doors.append(("more", (), NUM))
        self.assertEqual(edition.kinds(), library_kinds())
        self.assertEqual(edition.doors(), library_doors())
        self.assertEqual(len(edition), 14)

    def test_what_is_told_is_the_askers_own(self):
        edition = library()
        told_kinds, told_doors = edition.kinds(), edition.doors()
        told_kinds.pop()
        told_doors.clear()
        self.assertEqual(edition.kinds(), library_kinds())
        self.assertEqual(edition.doors(), library_doors())
        self.assertEqual(len(edition), 14)
        self.assertEqual(len(told_kinds), 7)
        self.assertEqual(edition, library())

    def test_what_is_refused_changes_nothing(self):
        kinds, doors = [("dog", hidden("cat"))], [("a", (), NUM), ("a", (), NUM)]
        with self.assertRaises(NoEdition):
            Edition(kinds, doors)
        self.assertEqual(kinds, [("dog", hidden("cat"))])
        self.assertEqual(doors, [("a", (), NUM), ("a", (), NUM)])


class Equality(Case):
    def same(self, one, other):
        self.assertIs(one == other, True)
        self.assertIs(one != other, False)

    def unlike(self, one, other):
        self.assertIs(one == other, False)
        self.assertIs(one != other, True)

    def test_equal_where_kinds_doors_and_numbers_are(self):
        self.same(library(), library())
        self.same(Edition([], []), Edition([], [], number=(1, 0, 0)))

    def test_unlike_by_number(self):
        self.unlike(library(), Edition(library_kinds(), library_doors(), number=(1, 0, 1)))

    def test_unlike_by_kinds(self):
        self.unlike(Edition([("a", hidden())], []), Edition([("b", hidden())], []))
        self.unlike(Edition([("a", hidden()), ("b", hidden())], []), Edition([("b", hidden()), ("a", hidden())], []))

    def test_unlike_by_doors(self):
        self.unlike(Edition([], [("a", (), NUM)]), Edition([], [("a", (), TEXT)]))
        self.unlike(Edition([], [("a", (), NUM), ("b", (), NUM)]), Edition([], [("b", (), NUM), ("a", (), NUM)]))

    def test_unlike_something_else(self):
        self.unlike(library(), None)
        self.unlike(library(), 14)
        self.unlike(library(), library_kinds())

    def test_the_interface_stands_in_the_class_itself(self):
        for name in ("kinds", "doors", "__len__", "__eq__", "__ne__"):
            self.assertIn(name, vars(Edition))


class TooLong(Case):
    def test_twelve_and_thirteen_kinds(self):
        kinds = [(sign, hidden()) for sign in LETTERS[:13]]
        self.assertEqual(len(self.made(kinds[:12]).kinds()), 12)
        self.refused(None, kinds)

    def test_sixteen_and_seventeen_doors(self):
        doors = [(sign, (), NUM) for sign in LETTERS[:17]]
        self.assertEqual(len(self.made([], doors[:16])), 16)
        self.refused(None, [], doors)

    def test_too_long_goes_first(self):
        self.refused(None, [("a", hidden("a"))] * 13)
        self.refused(None, [("a", hidden("a"))], [("num", (), of("cat"))] * 17)
        self.refused("a", [("a", hidden("a"))] * 12, [("num", (), of("cat"))] * 16)


class Names(Case):
    def placed(self, name):
        """Lists with this name in each place where a name stands, and the name that would be told."""
        field = (name, NUM, True)
        yield name, [(name, hidden())], []
        yield name, [(name, record())], []
        yield name, [(name, choice())], []
        yield name, [], [(name, (), NUM)]
        yield "dog", [("dog", record(("b", NUM, True), field))], []
        yield "dog", [("dog", choice(("b", NUM), (name, None)))], []
        yield "dog", [], [("dog", (("b", NUM, True), field), NUM)]

    def test_names(self):
        for name in GOOD_NAMES:
            for _, kinds, doors in self.placed(name):
                with self.subTest(name, kinds=kinds, doors=doors):
                    self.made(kinds, doors)

    def test_what_is_no_name(self):
        for name in BAD_NAMES:
            for what, kinds, doors in self.placed(name):
                with self.subTest(name, kinds=kinds, doors=doors):
                    self.refused(what, kinds, doors)

    def test_a_name_declared_twice(self):
        self.refused("a", [("a", hidden()), ("b", hidden()), ("a", record())])
        self.refused("a", [("a", hidden()), ("a", hidden())])
        self.refused("a", [], [("a", (), NUM), ("b", (), NUM), ("a", (), TEXT)])

    def test_the_second_of_a_name_is_the_faulty_one(self):
        self.refused("b", [("a", hidden()), ("b", hidden("cat")), ("a", record())])
        self.refused("b", [], [("a", (), NUM), ("b", (), of("cat")), ("a", (), TEXT)])

    def test_twice_in_one(self):
        self.refused("dog", [("dog", record(("a", NUM, True), ("b", NUM, True), ("a", NUM, True)))])
        self.refused("dog", [("dog", choice(("a", NUM), ("a", None)))])
        self.refused("dog", [], [("dog", (("a", NUM, True), ("a", TEXT, False)), NUM)])
        self.refused("dog", [("a", hidden()), ("dog", hidden("a", "a"))])
        self.refused("dog", [("a", hidden()), ("b", hidden()), ("dog", record(above=["a", "b", "a"]))])


class Counts(Case):
    def test_six_and_seven_fields_cases_and_parameters(self):
        fields = tuple((sign, NUM, True) for sign in LETTERS[:7])
        cases = tuple((sign, None) for sign in LETTERS[:7])
        self.made([("dog", ("record", fields[:6], ()))])
        self.refused("dog", [("dog", ("record", fields, ()))])
        self.made([("dog", ("choice", cases[:6], True))])
        self.refused("dog", [("dog", ("choice", cases, True))])
        self.made([], [("dog", fields[:6], NUM)])
        self.refused("dog", [], [("dog", fields, NUM)])


class KindsWithin(Case):
    def placed(self, kind):
        """Lists with this kind in each place where a kind stands; dog is told."""
        yield [("cat", hidden()), ("dog", record(("a", NUM, True), ("b", kind, True)))], []
        yield [("cat", hidden()), ("dog", choice(("a", None), ("b", kind)))], []
        yield [("cat", hidden())], [("dog", (("a", NUM, True), ("b", kind, False)), NUM)]
        yield [("cat", hidden())], [("dog", (), kind)]

    def check(self, good, bad):
        for kind in good:
            for kinds, doors in self.placed(kind):
                with self.subTest(kind=kind, kinds=kinds, doors=doors):
                    self.made(kinds, doors)
        for kind in bad:
            for kinds, doors in self.placed(kind):
                with self.subTest(kind=kind, kinds=kinds, doors=doors):
                    self.refused("dog", kinds, doors)

    def test_four_and_five_deep(self):
        good = [rows_deep(4), row(row(calls([], NUM))), calls([row(row(NUM))], NUM), calls([], row(row(NUM)))]
        self.check(good, [row(kind) for kind in good])

    def test_calls_within_calls(self):
        inner = calls([], NUM)
        self.check([inner, row(inner)],
                   [calls([inner], NUM), calls([NUM, TEXT, inner], NUM), calls([], inner), calls([row(inner)], NUM),
                    calls([], row(inner)), row(calls([inner], NUM)), row(calls([], inner))])

    def test_three_and_four_kinds_of_calls(self):
        self.check([calls([NUM] * 3, NUM), row(calls([NUM] * 3, NUM)), calls([], NUM)],
                   [calls([NUM] * 4, NUM), row(calls([NUM] * 4, NUM))])

    def test_names_that_are_not_declared(self):
        self.check([of("cat"), row(of("cat")), calls([NUM, of("cat")], of("cat"))],
                   [of("cow"), row(of("cow")), calls([NUM, of("cow")], NUM), calls([], of("cow")),
                    row(calls([row(of("cow"))], NUM)), of("num"), of("text")])

    def test_a_door_is_no_declared_kind(self):
        self.refused("dog", [], [("a", (), NUM), ("dog", (), of("a"))])
        self.refused("a", [], [("a", (), of("a"))])

    def test_a_kind_may_name_itself_and_later_ones(self):
        self.made([("a", record(("x", of("b"), False))), ("b", record(("x", row(of("b")), True)))])


class Above(Case):
    def test_records_stand_under_records_and_hidden_ones(self):
        self.made([("a", record(above=["b", "c"])), ("b", record()), ("c", hidden())])

    def test_hidden_ones_stand_under_hidden_ones_alone(self):
        self.made([("a", hidden("b", "c")), ("b", hidden()), ("c", hidden())])
        self.refused("a", [("a", hidden("b", "c")), ("b", hidden()), ("c", record())])
        self.refused("a", [("a", hidden("b")), ("b", choice())])

    def test_no_choice_and_nothing_undeclared_above(self):
        self.refused("a", [("a", record(above=["b"])), ("b", choice())])
        self.refused("a", [("b", hidden()), ("a", record(above=["b", "c"]))])
        self.refused("a", [("a", hidden("c"))])
        self.refused("a", [("a", record(above=["c"]))], [("c", (), NUM)])
        self.refused("a", [("a", record(above=["num"]))])

    def test_what_stands_above_itself(self):
        self.refused("a", [("a", hidden("a"))])
        self.refused("a", [("a", record(above=["a"]))])
        self.refused("a", [("a", hidden("b")), ("b", hidden("a"))])
        self.refused("b", [("z", hidden()), ("b", hidden("z", "c")), ("c", hidden("d")), ("d", hidden("e")),
                           ("e", hidden("b"))])
        self.refused("a", [("a", record(above=["b"])), ("b", record(above=["c"])), ("c", record(above=["a"]))])

    def test_what_stands_under_a_ring_is_not_above_itself(self):
        self.refused("b", [("a", hidden("b")), ("b", hidden("c")), ("c", hidden("b"))])
        self.refused("c", [("a", hidden("c")), ("c", hidden("d")), ("d", hidden("b")), ("b", hidden("c"))])

    def test_several_ways_to_one_above_are_no_ring(self):
        self.made([("a", hidden("b", "c")), ("b", hidden("d")), ("c", hidden("d")), ("d", hidden())])


class UnderRecords(Case):
    def test_has_the_fields_of_the_ones_directly_above(self):
        upper = ("up", record(("x", NUM, True), ("y", TEXT, False)))
        self.made([upper, ("dog", record(("y", TEXT, False), ("z", NUM, True), ("x", NUM, True), above=["up"]))])
        self.refused("dog", [upper, ("dog", record(("x", NUM, True), above=["up"]))])
        self.refused("dog", [upper, ("dog", record(above=["up"]))])
        self.refused("dog", [("dog", record(("y", TEXT, False), above=["up"])), upper])

    def test_has_them_as_much_needed(self):
        for needed in (True, False):
            upper = ("up", record(("x", NUM, needed)))
            self.made([upper, ("dog", record(("x", NUM, needed), above=["up"]))])
            self.refused("dog", [upper, ("dog", record(("x", NUM, not needed), above=["up"]))])

    def test_has_them_with_kinds_that_fit(self):
        more = [("low", hidden("mid")), ("mid", hidden("high")), ("high", hidden())]
        good = [(of("low"), of("mid")), (of("low"), of("high")), (row(of("low")), row(of("mid"))),
                (calls([of("mid")], of("low")), calls([of("low")], of("high"))), (of("dog"), of("up"))]
        bad = [(kind, own) for own, kind in good] + [(NUM, TEXT), (NUM, row(NUM))]
        for own, kind in good:
            with self.subTest(own=own, kind=kind):
                self.made([("dog", record(("x", own, True), above=["up"])), ("up", record(("x", kind, True)))] + more)
        for own, kind in bad:
            with self.subTest(own=own, kind=kind):
                self.refused("dog", [("dog", record(("x", own, True), above=["up"])),
                                     ("up", record(("x", kind, True)))] + more)

    def test_each_one_above_counts(self):
        uppers = [("one", record(("x", NUM, True))), ("two", record(("y", NUM, True)))]
        self.made(uppers + [("dog", record(("x", NUM, True), ("y", NUM, True), above=["one", "two"]))])
        self.refused("dog", uppers + [("dog", record(("x", NUM, True), above=["one", "two"]))])
        self.refused("dog", uppers + [("dog", record(("y", NUM, True), above=["one", "two"]))])

    def test_only_the_one_directly_above_is_asked(self):
        top = ("top", record(("x", NUM, True)))
        self.refused("mid", [("low", record(above=["mid"])), ("mid", record(above=["top"])), top])
        self.refused("low", [top, ("mid", record(("x", NUM, True), above=["top"])), ("low", record(above=["mid"]))])


class FirstFaulty(Case):
    """By the declarations as they are handed in, whatever else is faulty."""

    def test_the_first_in_their_order(self):
        self.refused("b", [("a", hidden()), ("b", hidden("z")), ("c", hidden("z"))])
        self.refused("b", [], [("a", (), NUM), ("b", (), of("z")), ("c", (), of("z"))])

    def test_declarations_ahead_of_doors(self):
        self.refused("b", [("b", hidden("z"))], [("a", (), of("z"))])

    def test_naming_a_faulty_one_is_no_fault(self):
        self.refused("Bad", [("a", record(("x", of("Bad"), True), above=["Bad"])), ("Bad", hidden())])
        self.refused("num", [("a", record(("x", of("num"), True))), ("num", hidden())])
        self.refused("b", [("a", record(("x", NUM, True), above=["b"])),
                           ("b", record(("x", NUM, True), ("x", NUM, True)))])
        self.refused("b", [("a", hidden("b")), ("b", hidden("z"))])

    def test_of_a_name_declared_twice_the_first_counts(self):
        with_field = ("a", record(("x", NUM, True)))
        self.refused("a", [("a", hidden()), ("b", record(above=["a"])), with_field])
        self.refused("b", [with_field, ("b", record(above=["a"])), ("a", hidden())])
        self.refused("a", [("b", record(above=["a"])), ("a", hidden()), ("a", choice())])
        self.refused("b", [("b", record(above=["a"])), ("a", choice()), ("a", hidden())])
        self.refused("a", [("b", hidden("a")), ("a", hidden()), ("a", hidden("b"))])
        self.refused("b", [("b", hidden("a")), ("a", hidden("b")), ("a", hidden())])

    def test_faulty_steps_lead_upwards_too(self):
        fields = [("x", record(("f", of("a"), True), above=["y"])), ("y", record(("f", of("c"), True)))]
        self.refused("a", fields + [("c", choice()), ("a", record(above=["c"]))])
        self.refused("x", fields + [("c", choice()), ("a", record())])
        self.refused("x", [("x", record(above=["h"])), ("h", hidden("x"))])

    def test_names_that_are_not_declared_fit_nothing_but_themselves(self):
        kinds = [("x", record(("f", of("a"), True), above=["y"])), ("y", record(("f", of("z"), True))),
                 ("a", record(above=["z"]))]
        self.refused("x", kinds)
        self.refused("y", kinds[1:])


if __name__ == "__main__":
    unittest.main()
