"""[15], [16], [17]: pairs, least breaks and their sizes, and the next number."""

import inspect
import unittest

from stillruns.breaks import break_size, least_break, next_number, pairs
from stillruns.editions import Edition
from stillruns.errors import TooGreat
from stillruns.least import sizes
from stillruns.terms import breaks, size
from tests.examples import (NUM, TEXT, calls, choice, hidden, library, library_doors, library_kinds, of, record,
                            record_of_size, records_in_a_row, row, row_size)

PLAIN = [((NUM, NUM), 1), ((TEXT, TEXT), 1)]
N, M = ("n", NUM, True), ("m", NUM, True)
MAY_N = ("n", NUM, False)
USE = ("use", (N,), TEXT)


def door(*parameters, name="d", answer=TEXT):
    return (name, tuple(parameters), answer)


def doors(*told):
    return Edition([], list(told))


def kinds(*told, more=()):
    return Edition(list(told), list(more))


def callback(handed, answer):
    return doors(door(("f", calls(handed, answer), True)), USE)


LOW_UP = [("up", hidden()), ("low", hidden("up"))]


TAKES_UP = ("u", (("x", of("up"), True),), NUM)
TAKES_UPS = ("u", (("x", row(of("up")), True),), NUM)
TAKES_LOW = ("u", (("x", of("low"), True),), NUM)


def with_low(*told):
    return Edition(LOW_UP, [("mklow", (), of("low")), ("mkup", (), of("up")), *told])


# Each cause of a break: its name, two editions, the least break from the one to the other, and the other way about.
CAUSES = [
    ("door gone", doors(door()), doors(), 1, None),
    ("door gone that takes", doors(door(N, M)), doors(), 3, None),
    ("door gone that none can call", kinds(("h", hidden()), more=[door(("x", of("h"), True))]),
     kinds(("h", hidden())), None, None),
    ("parameter gone", doors(door(N, M)), doors(door(N)), 3, 2),
    ("parameter gone that may be left out", doors(door(MAY_N, M)), doors(door(M)), 3, None),
    ("parameter put in", doors(door(N)), doors(door(N, ("m", NUM, False))), None, 3),
    ("parameter put in, needed", doors(door(N)), doors(door(N, M)), 2, 3),
    ("parameter needed", doors(door(MAY_N, M)), doors(door(N, M)), 2, None),
    ("two parameters needed", doors(door(MAY_N, ("m", NUM, False))), doors(door(N, M)), 1, None),
    ("parameters in another order", doors(door(N, M)), doors(door(M, N)), None, None),
    ("parameter of another kind", doors(door(N, M)), doors(door(("n", TEXT, True), M)), 3, 3),
    ("parameter of another kind that may be left out", doors(door(MAY_N)), doors(door(("n", TEXT, False))), 2, 2),
    ("parameter of a wider kind", with_low(door(("x", of("low"), True))), with_low(door(("x", of("up"), True))),
     None, 2),
    ("answer of another kind", doors(("e", (), NUM), USE), doors(("e", (), TEXT), USE), 2, None),
    ("answer of another kind that none takes", doors(door(answer=NUM)), doors(door(answer=TEXT)), None, None),
    ("answer of a lower kind", with_low(("e", (), of("up")), door(("x", of("up"), True))),
     with_low(("e", (), of("low")), door(("x", of("up"), True))), None, None),
    ("answer of a wider kind", with_low(("e", (), of("low")), door(("x", of("low"), True))),
     with_low(("e", (), of("up")), door(("x", of("low"), True))), 2, None),
    ("record gone", kinds(("a", record(N))), kinds(), 2, None),
    ("record no record", kinds(("a", record(N))), kinds(("a", hidden())), 2, None),
    ("field gone", kinds(("a", record(N))), kinds(("a", record())), 2, 1),
    ("field gone that may be left out", kinds(("a", record(MAY_N))), kinds(("a", record())), 2, None),
    ("field gone, got", kinds(("a", hidden()), ("b", record(("x", of("a"), True))), more=[("e", (), of("b"))]),
     kinds(("a", hidden()), ("b", record()), more=[("e", (), of("b"))]), 2, 1),
    ("field put in", kinds(("a", record(N))), kinds(("a", record(N, ("m", NUM, False)))), None, 3),
    ("field put in, needed", kinds(("a", record(N))), kinds(("a", record(N, M))), 2, 3),
    ("field needed", kinds(("a", record(("t", TEXT, False)))), kinds(("a", record(("t", TEXT, True)))), 1, 4),
    ("field needed, got", kinds(("a", record(("x", row(NUM), False))), more=[("e", (), of("a")), USE]),
     kinds(("a", record(("x", row(NUM), True))), more=[("e", (), of("a")), USE]), 1, 3),
    ("field of another kind", kinds(("a", record(N))), kinds(("a", record(("n", TEXT, True)))), 2, 2),
    ("field of another kind, got", kinds(("a", record(("n", row(NUM), True))), more=[("e", (), of("a")), USE]),
     kinds(("a", record(("n", NUM, True))), more=[("e", (), of("a")), USE]), 3, 2),
    ("case gone", kinds(("c", choice(("x", None), ("y", None), shut=False))),
     kinds(("c", choice(("x", None), shut=False))), 1, None),
    ("case gone, taken", kinds(("c", choice(("x", row(NUM)), ("y", None), shut=False)), more=[("e", (), of("c"))]),
     kinds(("c", choice(("y", None), shut=False)), more=[("e", (), of("c"))]), 2, None),
    ("case of another kind", kinds(("c", choice(("x", NUM)))), kinds(("c", choice(("x", TEXT)))), 2, 2),
    ("case of a kind it had not", kinds(("c", choice(("x", None)))), kinds(("c", choice(("x", NUM)))), 1, 2),
    ("case of another kind, taken", kinds(("c", choice(("x", row(NUM)), shut=False)), more=[("e", (), of("c")), USE]),
     kinds(("c", choice(("x", NUM), shut=False)), more=[("e", (), of("c")), USE]), 3, 2),
    ("case put into a shut choice", kinds(("c", choice(("x", None)))), kinds(("c", choice(("x", None), ("y", None)))),
     2, 1),
    ("case put into an open choice", kinds(("c", choice(("x", None), shut=False))),
     kinds(("c", choice(("x", None), ("y", None), shut=False))), None, 1),
    ("cases in another order", kinds(("c", choice(("x", None), ("y", None)))),
     kinds(("c", choice(("y", None), ("x", None)))), None, None),
    ("shut choice opened", kinds(("c", choice(("x", NUM)))), kinds(("c", choice(("x", NUM), shut=False))), 3, None),
    ("choice without cases opened", kinds(("c", choice()), more=[("e", (), of("c"))]),
     kinds(("c", choice(shut=False)), more=[("e", (), of("c"))]), 2, None),
    ("choice gone", kinds(("c", choice(("x", NUM)))), kinds(), 2, None),
    ("what stands above gone", kinds(("up", hidden()), ("low", record(above=["up"])), more=[TAKES_UP]),
     kinds(("up", hidden()), ("low", record()), more=[TAKES_UP]), 2, None),
    ("what stands above gone, in a row", kinds(*LOW_UP, more=[("e", (), row(of("low"))), TAKES_UPS]),
     kinds(("up", hidden()), ("low", hidden()), more=[("e", (), row(of("low"))), TAKES_UPS]), 2, None),
    ("callback of more kinds", callback([NUM], NUM), callback([NUM, NUM], NUM), 3, 1),
    ("callback handed another kind", callback([NUM], NUM), callback([TEXT], NUM), 2, None),
    ("callback asked for another kind", callback([NUM], NUM), callback([NUM], TEXT), 3, 3),
    ("callback no callback", callback([NUM], NUM), doors(door(("f", NUM, True)), USE), 1, 2),
    ("callback asked for a wider kind", with_low(door(("f", calls([], of("low")), True))),
     with_low(door(("f", calls([], of("up")), True))), None, 3),
    ("callback handed a wider kind", with_low(door(("f", calls([of("low")], NUM), True)), TAKES_LOW),
     with_low(door(("f", calls([of("up")], NUM), True)), TAKES_LOW), 2, None),
    ("one of two callbacks gone", doors(door(("f", calls([NUM], NUM), True), ("g", calls([], NUM), False))),
     doors(door(("f", calls([NUM], NUM), True))), 3, None),
    ("handed with a parameter gone", doors(door(("f", calls([NUM], NUM), False), N)),
     doors(door(("f", calls([NUM], NUM), False))), 2, 1),
    ("callback told, asked with another kind", doors(("g", (), calls([NUM], NUM))),
     doors(("g", (), calls([TEXT], NUM))), 3, 3),
    ("callback told, asked with more kinds", doors(("g", (), calls([NUM], NUM))),
     doors(("g", (), calls([NUM, NUM], NUM))), 3, 4),
    ("callback told, no callback", doors(("g", (), calls([], NUM))), doors(("g", (), NUM)), 2, None),
    ("callback told, answers another kind", doors(("g", (), calls([], NUM)), USE),
     doors(("g", (), calls([], TEXT)), USE), 3, None),
    ("callback told fits no more", doors(("g", (), calls([], NUM)), door(("f", calls([], NUM), True))),
     doors(("g", (), calls([], TEXT)), door(("f", calls([], NUM), True))), 2, None),
    ("row gone", doors(("e", (), row(NUM))), doors(("e", (), NUM)), 2, None),
    ("row in a row gone", doors(("e", (), row(row(NUM)))), doors(("e", (), row(NUM))), 3, None),
    ("equal", library(), library(), None, None),
    ("without kinds and doors", Edition([], []), Edition([], []), None, None),
    ("by the number alone", library(), Edition(library_kinds(), library_doors(), number=(7, 0, 0)), None, None),
]


def number_by(forth, back):
    """The number behind (4, 2, 9) by what breaks there and back."""
    if forth is not None:
        return 5, 0, 0
    return (4, 2, 10) if back is None else (4, 3, 0)


class Case(unittest.TestCase):
    def told(self, wanted, elder, newer, **more):
        """That a least break is told, of this size."""
        term = least_break(elder, newer, **more)
        self.assertEqual(size(term), wanted)
        self.assertIs(breaks(elder, newer, term), True)
        return term

    def too_great(self, what, elder, newer, **more):
        with self.assertRaises(TooGreat) as caught:
            least_break(elder, newer, **more)
        self.assertIs(type(caught.exception), TooGreat)
        self.assertEqual(caught.exception.what, what)


class Causes(Case):
    def one_way(self, wanted, elder, newer):
        self.assertEqual(break_size(elder, newer), wanted)
        if wanted is None:
            self.assertIsNone(least_break(elder, newer))
        else:
            self.told(wanted, elder, newer)

    def test_there_and_back(self):
        for name, one, other, forth, back in CAUSES:
            with self.subTest(name):
                self.one_way(forth, one, other)
            with self.subTest(name, back=True):
                self.one_way(back, other, one)

    def test_numbers(self):
        for name, one, other, forth, back in CAUSES:
            elder = Edition(one.kinds(), one.doors(), number=(4, 2, 9))
            with self.subTest(name):
                self.assertEqual(next_number(elder, other), number_by(forth, back))
            elder = Edition(other.kinds(), other.doors(), number=(4, 2, 9))
            with self.subTest(name, back=True):
                self.assertEqual(next_number(elder, one), number_by(back, forth))

    def test_the_very_terms(self):
        for elder, newer, wanted in [
            (doors(("e", (), NUM)), doors(), [("call", "e", ())]),
            (doors(door(MAY_N)), doors(door(N)), [("call", "d", ())]),
            (kinds(("c", choice(("y", None), ("x", None)))), kinds(("c", choice(("y", None), ("x", None), shut=False))),
             [("look", ("x", "y"), ("case", "c", case, None)) for case in "xy"]),
            (doors(("g", (), calls([], NUM))), doors(("g", (), NUM)), [("ask", ("call", "g", ()), ())]),
            (doors(("e", (), row(NUM))), doors(("e", (), NUM)), [("one", ("call", "e", ()))]),
            (doors(door(("f", calls([NUM], NUM), True)), ("e", (), NUM)),
             doors(door(("f", calls([], NUM), True)), ("e", (), NUM)), [("handed", "d", "f", 0, ())]),
        ]:
            self.assertIn(least_break(elder, newer), wanted)


class Lesser(Case):
    """Which of several causes, and which parts, make the least break."""

    def test_the_lesser_cause(self):
        elder = doors(door(N, M), ("e", (N,), TEXT), ("g", (N, M, ("o", NUM, True)), TEXT))
        self.assertEqual(self.told(2, elder, doors())[1], "e")
        self.assertEqual(self.told(3, elder, doors(("e", (N,), TEXT)))[1], "d")

    def test_what_breaks_takes_the_place_of_the_least(self):
        # e gives a num in the elder alone, of size 3: other nums are less, but do not break.
        elder = doors(("e", (("t", TEXT, True), ("u", TEXT, True)), NUM), door(N, M, ("o", NUM, True)))
        newer = doors(("e", (("t", TEXT, True), ("u", TEXT, True)), TEXT), door(N, M, ("o", NUM, True)))
        self.told(6, elder, newer)

    def test_what_may_be_left_out_is_left_out_unless_it_breaks(self):
        elder = doors(door(MAY_N, ("m", NUM, False), ("t", TEXT, True)))
        newer = doors(door(MAY_N, ("t", TEXT, True)))
        self.assertEqual(self.told(3, elder, newer), ("call", "d", (("m", ("num", 0)), ("t", ("text", "a")))))

    def test_answer_literals_that_break(self):
        kinds_ = [("h", hidden()), ("g", hidden())]
        taking = door(("f", calls([NUM], of("h")), True))
        elder = Edition(kinds_, [("some", (), of("h")), ("mine", (N, M), of("h")), taking])
        newer = Edition(kinds_, [("some", (), of("h")), ("mine", (N, M), of("g")), taking])
        # mine is 3, the answer around it 4, the call 5.
        term = self.told(5, elder, newer)
        self.assertEqual(term[2][0][1][:2], ("answer", 1))
        self.assertIsNone(break_size(newer, elder))

    def test_an_answer_literal_and_a_callback_that_a_door_tells(self):
        taking = door(("f", calls([], NUM), True))
        elder = doors(taking, ("g", (N,), calls([], NUM)))
        newer = doors(door(("f", calls([], TEXT), True)), ("g", (N,), calls([], NUM)))
        self.told(3, elder, newer)
        elder = doors(taking, ("g", (), calls([], NUM)))
        newer = doors(door(("f", calls([], TEXT), True)), ("g", (), calls([], NUM)))
        self.told(2, elder, newer)

    def test_answers_in_answers_break_by_their_parts_alone(self):
        self.assertEqual(self.told(1, doors(door()), doors()), ("call", "d", ()))
        self.assertEqual(break_size(doors(door(name="zz", answer=NUM), USE), doors(USE)), 1)


class Pairs(Case):
    def test_of_equal_editions_are_the_sizes_twice(self):
        edition = library()
        self.assertEqual(pairs(edition, library()), [((kind, kind), many) for kind, many in sizes(edition)])
        self.assertEqual(pairs(Edition([], []), Edition([], [])), PLAIN)

    def test_only_of_what_runs_in_both(self):
        elder = doors(("e", (N,), row(NUM)), ("g", (), row(TEXT)), ("k", (), calls([], row(NUM))))
        newer = doors(("e", (("n", TEXT, True),), row(NUM)), ("g", (), TEXT), ("k", (), calls([], row(NUM))))
        self.assertEqual(pairs(elder, newer), sorted(PLAIN + [
            ((row(TEXT), TEXT), 1), ((calls([], row(NUM)), calls([], row(NUM))), 1), ((row(NUM), row(NUM)), 2)]))

    def test_what_one_edition_needs_is_there_in_both(self):
        elder = kinds(("a", record(MAY_N, ("m", row(TEXT), True))), more=[("r", (), row(TEXT))])
        newer = kinds(("a", record(N, ("m", row(TEXT), False))), more=[("r", (), row(TEXT))])
        self.assertEqual(dict(pairs(elder, newer))[of("a"), of("a")], 3)
        self.assertEqual(dict(pairs(elder, newer))[row(NUM), NUM], 4)
        self.assertEqual(dict(pairs(elder, newer))[row(TEXT), row(row(TEXT))], 4)
        self.assertEqual(dict(sizes(elder))[of("a")], 2)

    def test_one_kind_may_have_several_pairs(self):
        elder = doors(("e", (), NUM), ("g", (N, M), NUM))
        newer = doors(("e", (), TEXT), ("g", (N, M), row(TEXT)))
        self.assertEqual(pairs(elder, newer), sorted(PLAIN + [((NUM, TEXT), 1), ((NUM, row(TEXT)), 3)]))

    def test_the_least_part_that_fits_in_both(self):
        # x and y give what fits in both, of 3 and 4; w what fits in the elder alone, v what fits in the newer alone.
        names = [("up", hidden()), ("low", hidden("up")), ("far", hidden())]
        taking = [("g", tuple((each, NUM, True) for each in "abcd"), calls([of("up")], row(NUM))),
                  ("d", (("u", of("up"), True),), row(TEXT)),
                  ("e", (("f", calls([], of("up")), True),), row(of("far")))]
        giving = {"x": (N, ("m", NUM, True)), "y": (N, ("m", NUM, True), ("o", NUM, True)), "w": (N,), "v": ()}
        before = {"x": of("low"), "y": of("up"), "w": of("low"), "v": of("far")}
        behind = {"x": of("up"), "y": of("low"), "w": of("far"), "v": of("up")}
        for order in ("xywv", "vwyx", "wxvy"):
            elder = Edition(names, [(name, giving[name], before[name]) for name in order] + taking)
            newer = Edition(names, taking + [(name, giving[name], behind[name]) for name in order])
            told = dict(pairs(elder, newer))
            self.assertEqual(told[row(NUM), row(NUM)], 1 + 5 + 3)
            self.assertEqual(told[row(TEXT), row(TEXT)], 1 + 3)
            self.assertEqual(told[row(of("far")), row(of("far"))], 1 + 1 + 3)
            # Of d with w of 2.
            self.told(3, elder, newer)
            self.assertEqual(least_break(elder, newer)[1], "d")
            # Here the callback alone asks for such parts, and some of them are found ahead of it.
            elder = Edition(names, elder.doors()[:5])
            newer = Edition(names, taking[:1] + newer.doors()[3:])
            self.assertEqual(dict(pairs(elder, newer))[row(NUM), row(NUM)], 1 + 5 + 3)
            self.told(1 + 5 + 2, elder, newer)

    def test_through_answer_literals(self):
        elder = doors(("e", (), row(NUM)), ("g", (("f", calls([TEXT], row(NUM)), True),), row(TEXT)))
        newer = doors(("e", (), row(TEXT)), ("g", (("f", calls([NUM], row(TEXT)), True),), row(TEXT)))
        self.assertEqual(dict(pairs(elder, newer)), dict(PLAIN + [
            ((row(NUM), row(TEXT)), 1), ((NUM, TEXT), 2), ((row(TEXT), row(TEXT)), 3), ((TEXT, NUM), 1)]))

    def test_however_great(self):
        elder, newer = Edition(records_in_a_row(12), []), Edition(records_in_a_row(12), [], number=(2, 0, 0))
        self.assertEqual(dict(pairs(elder, newer)), dict(PLAIN + [
            ((of(name), of(name)), row_size(at)) for at, name in enumerate("abcdefghijkl")]))

    def test_sorted_new_and_the_askers_own(self):
        elder, newer = library(), Edition(library_kinds(), library_doors()[3:])
        told = pairs(elder, newer)
        self.assertIs(type(told), list)
        self.assertEqual(told, sorted(told))
        wanted = list(told)
        told.clear()
        self.assertEqual(pairs(elder=elder, newer=newer), wanted)
        self.assertEqual(elder, library())


class Limits(Case):
    def couple(self, wanted):
        """Two editions of which the least break has this size."""
        told, name = record_of_size(wanted - 1)
        gone = ("gone", (("x", of(name), True),), TEXT)
        return Edition(told, [gone]), Edition(told, [])

    def test_at_below_and_above_the_size(self):
        for wanted in (2, 3, 8, 100, 199, 200):
            elder, newer = self.couple(wanted)
            self.assertEqual(break_size(elder, newer), wanted)
            self.told(wanted, elder, newer)
            self.told(wanted, elder, newer, limit=wanted)
            self.told(wanted, elder, newer, limit=200)
            self.told(wanted, elder, newer, limit=min(200, wanted + 1))
            self.too_great(wanted, elder, newer, limit=wanted - 1)
            self.too_great(wanted, elder, newer, limit=1)

    def test_one(self):
        self.told(1, doors(door()), doors(), limit=1)
        self.assertIsNone(least_break(doors(), doors(door()), limit=1))

    def test_above_two_hundred(self):
        for wanted in (201, 202, 1000):
            elder, newer = self.couple(wanted)
            self.too_great(wanted, elder, newer)
            self.too_great(wanted, elder, newer, limit=200)
            self.assertEqual(break_size(elder, newer), wanted)

    def test_a_row_of_twelve(self):
        told = records_in_a_row(12)
        last = told[:-1] + [("l", record(*told[-1][1][1][:5]))]
        elder, newer = Edition(told, []), Edition(last, [])
        self.assertEqual(break_size(elder, newer), row_size(11))
        self.assertEqual(break_size(newer, elder), row_size(11) - row_size(10))
        self.too_great(row_size(11), elder, newer)
        self.assertEqual(next_number(elder, newer), (2, 0, 0))

    def test_the_limit_by_its_name_alone(self):
        self.assertEqual(str(inspect.signature(least_break)), "(elder, newer, *, limit=200)")
        with self.assertRaises(TypeError):
            least_break(library(), library(), 200)


class Numbers(Case):
    def test_by_the_elders_number(self):
        full, bare = [door()], []
        for number, wanted in [((1, 0, 0), (1, 0, 1)), ((0, 0, 0), (0, 0, 1)), ((3, 9, 99), (3, 9, 100))]:
            self.assertEqual(next_number(Edition([], full, number=number), Edition([], full, number=(8, 8, 8))), wanted)
        for number, wanted in [((1, 0, 0), (1, 1, 0)), ((0, 0, 0), (0, 1, 0)), ((3, 9, 99), (3, 10, 0))]:
            self.assertEqual(next_number(Edition([], bare, number=number), Edition([], full)), wanted)
        for number, wanted in [((1, 0, 0), (2, 0, 0)), ((0, 0, 0), (1, 0, 0)), ((9, 9, 99), (10, 0, 0))]:
            self.assertEqual(next_number(Edition([], full, number=number), Edition([], bare)), wanted)
        great = 10 ** 59
        self.assertEqual(next_number(Edition([], [], number=(1, 2, great)), Edition([], [])), (1, 2, great + 1))

    def test_what_breaks_both_ways_is_the_first_number(self):
        self.assertEqual(next_number(doors(door(name="e")), doors(door(name="g"))), (2, 0, 0))

    def test_by_names(self):
        self.assertEqual(next_number(elder=doors(), newer=doors()), (1, 0, 1))
        self.assertIs(type(next_number(doors(), doors())), tuple)
        self.assertEqual(break_size(elder=doors(door()), newer=doors()), 1)
        self.assertEqual(least_break(elder=doors(door()), newer=doors(), limit=3), ("call", "d", ()))


class Same(Case):
    def test_equal_editions_tell_the_same(self):
        for name, one, other, forth, _ in CAUSES:
            with self.subTest(name):
                again = (Edition(one.kinds(), one.doors(), number=one.number),
                         Edition(other.kinds(), other.doors(), number=other.number))
                first = least_break(one, other)
                pairs(other, one)
                least_break(other, one)
                self.assertEqual(least_break(*again), first)
                self.assertEqual(least_break(one, other), first)

    def test_nothing_changes(self):
        for _, one, other, _, _ in CAUSES:
            before = (one.kinds(), one.doors(), one.number, other.kinds(), other.doors(), other.number)
            pairs(one, other)
            least_break(one, other)
            next_number(one, other)
            self.assertEqual((one.kinds(), one.doors(), one.number, other.kinds(), other.doors(), other.number), before)


if __name__ == "__main__":
    unittest.main()
