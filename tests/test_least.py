"""[14]: least programs of the kinds of an edition, and the sizes of them all."""

import inspect
import unittest

from stillruns.editions import Edition
from stillruns.errors import StillError, TooGreat
from stillruns.least import LIMIT, least, sizes
from stillruns.terms import kind_of, size
from tests.examples import (NUM, TEXT, call, calls, choice, hidden, library, library_doors, library_kinds, make, num,
                            of, record, record_of_size, records_in_a_row, row, row_size, rows_deep)

PLAIN = [(NUM, 1), (TEXT, 1)]


class Case(unittest.TestCase):
    def told(self, wanted, edition, kind, **more):
        """That a least program is told, of this size."""
        term = least(edition, kind, **more)
        self.assertEqual(kind_of(edition, term), kind)
        self.assertEqual(size(term), wanted)
        return term

    def too_great(self, what, edition, kind, **more):
        with self.assertRaises(TooGreat) as caught:
            least(edition, kind, **more)
        self.assertIs(type(caught.exception), TooGreat)
        self.assertEqual(caught.exception.what, what)


class Sizes(Case):
    def test_without_kinds_and_doors(self):
        self.assertEqual(sizes(Edition([], [])), PLAIN)

    def test_a_whole_library(self):
        self.assertEqual(sizes(library()), sorted([
            (NUM, 1), (TEXT, 1), (calls([], NUM), 1), (calls([of("animal"), TEXT], of("shape")), 1),
            (of("animal"), 2), (of("dog"), 1), (of("lone"), 1), (of("mood"), 1), (of("none"), 1), (of("shape"), 1),
            (of("thing"), 1), (row(NUM), 2), (row(of("dog")), 1), (row(of("thing")), 3),
            (row(row(of("thing"))), 2), (row(TEXT), 4)]))

    def test_answer_literals_are_parts_and_not_told(self):
        edition = Edition([("a", record(("f", calls([NUM], row(NUM)), True)))], [
            ("r", (("n", NUM, True), ("m", NUM, True)), row(NUM)),
            ("d", (("g", calls([], of("a")), True),), row(TEXT))])
        # r is 3, the answer around it 4, the record 5, the answer around that 6.
        self.assertEqual(dict(sizes(edition)), dict(PLAIN + [
            (row(NUM), 3), (of("a"), 5), (row(TEXT), 7), (calls([NUM], row(NUM)), 6)]))

    def test_an_answer_literal_is_taken_only_where_it_is_less(self):
        doors = [("mine", (), calls([], of("h"))), ("some", (), of("h")),
                 ("use", (("f", calls([], of("h")), True),), row(NUM))]
        self.assertEqual(dict(sizes(Edition([("h", hidden())], doors)))[row(NUM)], 2)
        self.assertEqual(dict(sizes(Edition([("h", hidden())], doors[1:])))[row(NUM)], 3)
        self.assertEqual(dict(sizes(Edition([("h", hidden())], doors[2:]))).get(row(NUM)), None)

    def test_an_answer_literal_has_as_many_kinds_and_an_answer_that_fits(self):
        kinds = [("up", hidden()), ("low", hidden("up"))]
        doors = [("some", (), of("low")), ("use", (("f", calls([NUM, TEXT], of("up")), True),), row(NUM))]
        edition = Edition(kinds, doors)
        self.assertEqual(dict(sizes(edition))[row(NUM)], 3)
        self.assertEqual(self.told(3, edition, row(NUM)), call("use", f=("answer", 2, ("call", "some", ()))))
        self.assertNotIn(row(NUM), dict(sizes(Edition(kinds, [("some", (), of("up"))] + [
            ("use", (("f", calls([NUM], of("low")), True),), row(NUM))]))))

    def test_handed_ask_as_look_and_one(self):
        edition = Edition([("c", choice(("x", row(TEXT)), shut=False)), ("h", hidden())], [
            ("d", (("f", calls([row(of("c")), row(row(NUM))], NUM), True), ("n", NUM, True), ("o", NUM, False)), TEXT),
            ("g", (("n", NUM, True),), calls([NUM, TEXT], row(of("h"))))])
        self.assertEqual(dict(sizes(edition)), dict(PLAIN + [
            (row(of("c")), 2), (of("c"), 3), (row(TEXT), 4), (row(row(NUM)), 2), (row(NUM), 3),
            (calls([NUM, TEXT], row(of("h"))), 2), (row(of("h")), 5), (of("h"), 6)]))

    def test_five_levels(self):
        edition = Edition([("a", record(("x", rows_deep(4), False)))], [])
        self.assertEqual(sizes(edition), sorted(PLAIN + [(of("a"), 1)] + [(rows_deep(5 - down), 2 + down)
                                                                          for down in range(4)]))
        self.told(2, edition, rows_deep(5))

    def test_twelve_kinds_and_sixteen_doors(self):
        doors = [(name * 2, (), of("l")) for name in "abcdefghijklmno"] + [("p", (("x", of("l"), True),), row(NUM))]
        edition = Edition(records_in_a_row(12), doors)
        self.assertEqual(dict(sizes(edition)), dict(
            PLAIN + [(of("a"), 1), (of("l"), 1), (row(NUM), 2)]
            + [(of(name), 2 + at) for at, name in enumerate("kj")]
            + [(of(name), min(row_size(10 - at), 2 + at)) for at, name in enumerate("kjihgfedcb")]))

    def test_however_great(self):
        told = dict(sizes(Edition(records_in_a_row(12), [])))
        self.assertEqual(told, dict(PLAIN + [(of(name), row_size(at)) for at, name in enumerate("abcdefghijkl")]))
        self.assertEqual(told[of("l")], (6 ** 12 - 1) // 5)

    def test_sorted_new_and_the_askers_own(self):
        edition = library()
        told = sizes(edition)
        self.assertIs(type(told), list)
        self.assertEqual(told, sorted(told))
        wanted = list(told)
        told.clear()
        self.assertEqual(sizes(edition=edition), wanted)
        self.assertEqual(edition, library())


class Least(Case):
    def test_of_each_kind_of_a_library(self):
        edition = library()
        for kind, wanted in sizes(edition):
            with self.subTest(kind=kind):
                self.told(wanted, edition, kind)

    def test_of_num_and_text(self):
        edition = Edition([], [])
        self.assertEqual(self.told(1, edition, NUM)[0], "num")
        self.assertEqual(self.told(1, edition, TEXT)[0], "text")

    def test_of_this_very_kind(self):
        edition = Edition([("up", record()), ("low", record(("n", NUM, True), above=["up"])), ("h", hidden()),
                           ("x", record(above=["h"]))], [("one", (("u", of("up"), True),), row(of("low")))])
        self.told(1, edition, of("up"))
        self.assertEqual(self.told(2, edition, of("low")), make("low", n=num(0)))
        self.assertIsNone(least(edition, of("h")))
        self.assertIsNone(least(edition, row(of("up"))))
        self.told(2, edition, row(of("low")))

    def test_none_where_there_is_none(self):
        edition = library()
        for kind in (of("live"), of("cow"), row(of("cow")), row(row(NUM)), row(of("shape")), calls([], TEXT),
                     calls([NUM], NUM), calls([of("cow")], NUM), rows_deep(5), calls([], rows_deep(4)),
                     row(calls([row(NUM)], row(row(NUM))))):
            self.assertIsNone(least(edition, kind))
            self.assertIsNone(least(edition, kind, limit=1))

    def test_none_where_records_need_one_another(self):
        edition = Edition([("a", record(("x", of("b"), True))), ("b", record(("x", of("a"), True)))], [])
        self.assertIsNone(least(edition, of("a")))
        self.assertEqual(sizes(edition), PLAIN)
        broken = Edition(edition.kinds(), [("some", (), of("b"))])
        self.assertIn(self.told(2, broken, of("a")),
                      (make("a", x=("call", "some", ())), ("get", "x", ("call", "some", ()))))

    def test_the_lesser_of_several(self):
        edition = Edition([("a", record(("n", NUM, True), ("m", NUM, True)))],
                          [("far", (("p", NUM, True), ("q", NUM, True), ("r", NUM, True)), of("a")),
                           ("near", (("n", NUM, True), ("m", NUM, False)), row(of("a")))])
        # The record itself is 3, one(near(..)) is 3, too: either may be told, but never far, which is 4.
        self.assertIn(self.told(3, edition, of("a"))[0], ("make", "one"))
        self.told(2, edition, row(of("a")))

    def test_the_least_of_several_parts_that_fit(self):
        nums = [(name, NUM, True) for name in "abcdef"]
        kinds = [("up", hidden()), ("low", hidden("up")), ("lower", hidden("low")), ("far", hidden())]
        doors = [("x", tuple(nums[:4]), of("up")), ("y", tuple(nums[:2]), of("lower")), ("z", tuple(nums[:3]), of("low")),
                 ("g", tuple(nums), calls([of("up"), of("low")], row(of("far")))),
                 ("d", (("u", of("up"), True), ("v", of("low"), True)), row(of("up"))),
                 ("e", (("f", calls([], of("up")), True),), row(of("low")))]
        # x is 5, y 3 and z 4: y is taken for all; g is 7.
        for order in (doors, doors[::-1], doors[3:] + doors[:3]):
            edition = Edition(kinds, order)
            self.told(1 + 7 + 3 + 3, edition, row(of("far")))
            self.told(1 + 3 + 3, edition, row(of("up")))
            self.told(1 + 1 + 3, edition, row(of("low")))
            # Here the callback alone asks for such parts: none, some or all of them are found ahead of it.
            for many in range(7):
                calling = ("g", tuple(nums[:many]), calls([of("up"), of("low")], row(of("far"))))
                asking = Edition(kinds, [each for each in order if each[0] not in "deg"] + [calling])
                self.told(1 + 1 + many + 3 + 3, asking, row(of("far")))

    def test_what_may_be_left_out_is(self):
        edition = Edition([("a", record(("n", NUM, False)))], [("d", (("n", NUM, False),), row(TEXT))])
        self.assertEqual(self.told(1, edition, of("a")), ("make", "a", ()))
        self.assertEqual(self.told(1, edition, row(TEXT)), ("call", "d", ()))

    def test_arguments_rise(self):
        edition = Edition([("a", record(("z", NUM, True), ("b", TEXT, True), ("m", NUM, True)))],
                          [("d", (("y", NUM, True), ("f", calls([TEXT], NUM), True), ("a", TEXT, True)), row(NUM))])
        self.assertEqual([name for name, _ in self.told(4, edition, of("a"))[2]], ["b", "m", "z"])
        self.assertEqual([name for name, _ in self.told(5, edition, row(NUM))[2]], ["a", "f", "y"])
        self.told(4, Edition([], [("d", (("y", NUM, True), ("f", calls([row(TEXT)], NUM), True), ("a", TEXT, True),
                                         ("b", TEXT, True)), row(NUM))]), row(TEXT))

    def test_of_a_callback_that_a_program_writes(self):
        edition = library()
        self.told(3, edition, ("answers", 2, of("animal")))
        self.told(4, edition, ("answers", 0, ("answers", 7, of("animal"))))
        self.assertIsNone(least(edition, ("answers", 1, of("live"))))
        self.too_great(3, edition, ("answers", 2, of("animal")), limit=2)


class Limits(Case):
    def test_two_hundred(self):
        self.assertEqual(LIMIT, 200)
        self.assertEqual(str(inspect.signature(least)), "(edition, kind, *, limit=200)")
        self.assertEqual(str(inspect.signature(sizes)), "(edition)")
        with self.assertRaises(TypeError):
            least(Edition([], []), NUM, 200)

    def test_at_below_and_above_the_size(self):
        for wanted in (2, 3, 7, 50, 199, 200):
            kinds, name = record_of_size(wanted)
            edition = Edition(kinds, [])
            self.assertEqual(dict(sizes(edition))[of(name)], wanted)
            self.told(wanted, edition, of(name))
            self.told(wanted, edition, of(name), limit=wanted)
            self.told(wanted, edition, of(name), limit=200)
            self.told(wanted, edition, of(name), limit=min(200, wanted + 1))
            self.too_great(wanted, edition, of(name), limit=wanted - 1)
            self.too_great(wanted, edition, of(name), limit=1)

    def test_one(self):
        edition = Edition([("a", record()), ("b", record(("n", NUM, True)))], [])
        self.told(1, edition, NUM, limit=1)
        self.told(1, edition, of("a"), limit=1)
        self.too_great(2, edition, of("b"), limit=1)

    def test_above_two_hundred(self):
        for wanted in (201, 202, 400, 5000):
            kinds, name = record_of_size(wanted)
            self.too_great(wanted, Edition(kinds, []), of(name))
            self.too_great(wanted, Edition(kinds, []), of(name), limit=200)
            self.assertEqual(dict(sizes(Edition(kinds, [])))[of(name)], wanted)

    def test_a_row_of_twelve(self):
        edition = Edition(records_in_a_row(12), [])
        for at, name in enumerate("abcdefghijkl"):
            if row_size(at) <= 200:
                self.told(row_size(at), edition, of(name))
            else:
                self.too_great(row_size(at), edition, of(name))

    def test_the_refusal_stands_straight_under_still_error(self):
        self.assertEqual(TooGreat.__bases__, (StillError,))


class Same(Case):
    def test_equal_editions_tell_the_same(self):
        kinds = [row_[0] for row_ in sizes(library())]
        one, other = library(), Edition(library_kinds(), library_doors())
        first = [least(one, kind) for kind in kinds]
        self.assertEqual([least(other, kind) for kind in reversed(kinds)], first[::-1])
        sizes(one)
        least(one, of("live"))
        self.assertEqual([least(edition=one, kind=kind, limit=200) for kind in kinds], first)

    def test_nothing_changes(self):
        edition = library()
        least(edition, of("dog"))
        sizes(edition)
        self.assertEqual(edition, library())
        self.assertEqual(edition.kinds(), library_kinds())
        self.assertEqual(edition.doors(), library_doors())


if __name__ == "__main__":
    unittest.main()
