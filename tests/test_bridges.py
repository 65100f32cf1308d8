"""[20], [21], [22]: bridges, what is unfolded through them, and the doors to be bridged."""

import copy
import unittest

from stillruns.breaks import break_size, least_break
from stillruns.bridges import bridged, lost_doors, unfolded
from stillruns.editions import Edition, fits
from stillruns.errors import NoBridge, StillError
from stillruns.papers import relation, relation_holds
from stillruns.terms import kind_of, runs, size
from tests.examples import NUM, TEXT, call, calls, choice, hidden, make, num, of, record, row, rows_deep, text
from tests.listing import listed

N, M = ("n", NUM, True), ("m", NUM, True)
KINDS = [("live", hidden()), ("animal", record(("name", TEXT, True), ("age", NUM, False), above=["live"])),
         ("dog", record(("name", TEXT, True), ("age", NUM, False), ("tail", NUM, True), above=["animal"])),
         ("mood", choice(("calm", None), ("loud", NUM)))]
DOORS = [("add", (("a", NUM, True), ("b", NUM, True), ("c", NUM, False)), NUM),
         ("name", (("of", of("live"), True),), TEXT),
         ("each", (("f", calls([of("animal")], NUM), True), ("of", row(of("animal")), True)), row(NUM)),
         ("dogs", (), row(of("dog"))),
         ("maker", (), calls([NUM], of("dog")))]


def hole(name):
    return ("hole", name)


def newer(doors=DOORS, number=(3, 1, 4)):
    return Edition(KINDS, list(doors), number=number)


TWICE = ("twice", (N,), NUM, call("add", a=hole("n"), b=hole("n")))
NAMED = ("named", (("who", of("animal"), True), ("n", NUM, False)), TEXT, ("get", "name", hole("who")))
PUP = ("pup", (N, ("t", TEXT, True)), of("animal"), make("dog", age=hole("n"), name=hole("t"), tail=num(2)))
AGES = ("ages", (("whose", row(of("animal")), True),), row(NUM),
        call("each", f=("answer", 1, num(3)), of=hole("whose")))
SAME = ("same", (("n", NUM, True), ("m", NUM, True)), NUM, hole("m"))
FIXED = ("fixed", (N, ("m", NUM, False)), NUM, num(8))
BRIDGE = [TWICE, NAMED, PUP, AGES, SAME, FIXED]


class Case(unittest.TestCase):
    def refused(self, what, asked, *told):
        with self.assertRaises(NoBridge) as caught:
            asked(*told)
        self.assertIs(type(caught.exception), NoBridge)
        self.assertEqual(caught.exception.what, what)

    def laid(self, template, answer, *parameters):
        """That a bridge of one door is laid."""
        edition = bridged(newer(), [("x", tuple(parameters), answer, template)])
        self.assertEqual(edition.doors()[-1], ("x", tuple(parameters), answer))

    def faulty(self, template, answer, *parameters):
        self.refused("x", bridged, newer(), [("x", tuple(parameters), answer, template)])


class Laid(Case):
    def test_doors_behind_its_own_and_the_same_number(self):
        edition = bridged(newer(), BRIDGE)
        self.assertEqual(edition.kinds(), KINDS)
        self.assertEqual(edition.doors(), DOORS + [row_[:3] for row_ in BRIDGE])
        self.assertEqual(edition.number, (3, 1, 4))
        self.assertIsInstance(edition, Edition)

    def test_an_empty_bridge(self):
        self.assertEqual(bridged(newer(), []), newer())

    def test_templates(self):
        self.laid(num(), NUM)
        self.laid(hole("n"), NUM, N)
        self.laid(hole("d"), of("live"), ("d", of("dog"), True))
        self.laid(make("dog", name=text(), tail=num()), of("animal"))
        self.laid(("get", "age", hole("d")), row(NUM), ("d", of("dog"), True))
        self.laid(("one", ("call", "dogs", ())), of("live"))
        self.laid(("as", "loud", hole("c")), NUM, ("c", of("mood"), True))
        self.laid(("look", ("calm", "loud"), hole("c")), NUM, ("c", of("mood"), True))
        self.laid(("case", "mood", "loud", hole("n")), of("mood"), N)
        self.laid(("ask", ("call", "maker", ()), (hole("n"),)), of("animal"), N)
        self.laid(("handed", "each", "f", 0, (("of", ("call", "dogs", ())),)), of("animal"))
        self.laid(("call", "maker", ()), calls([NUM], of("live")))
        self.laid(call("each", f=("answer", 1, hole("n")), of=hole("r")), row(NUM), N, ("r", row(of("dog")), True))

    def test_a_hole_has_the_kind_of_its_parameter(self):
        self.faulty(("get", "tail", hole("d")), NUM, ("d", of("animal"), True))
        self.laid(("get", "tail", hole("d")), NUM, ("d", of("dog"), True))
        self.faulty(hole("n"), TEXT, N)
        self.faulty(("one", hole("n")), NUM, N)

    def test_a_row_of_callbacks_is_well(self):
        self.laid(("one", ("ask", ("one", hole("r")), ())), NUM, ("r", row(calls([], row(NUM))), True))
        self.laid(num(), NUM, ("r", row(calls([NUM], NUM)), False))

    def test_parameters_that_no_hole_takes(self):
        self.laid(num(), NUM, N, ("m", NUM, False))

    def test_an_edition_with_the_most_doors(self):
        doors = [(name, (), NUM) for name in "abcdefghijklmno"]
        edition = bridged(newer(doors), [TWICE[:3] + (num(),)])
        self.assertEqual(len(edition), 16)

    def test_by_names(self):
        self.assertEqual(bridged(newer=newer(), bridge=[]), newer())

    def test_what_is_handed_in_stays_and_is_not_kept(self):
        edition, bridge = newer(), list(BRIDGE)
        told = bridged(edition, bridge)
        self.assertEqual(edition, newer())
        self.assertEqual(bridge, BRIDGE)
        bridge.clear()
        self.assertEqual(told.doors(), DOORS + [row_[:3] for row_ in BRIDGE])
        told.doors().clear()
        self.assertEqual(bridged(edition, BRIDGE), told)


class Refused(Case):
    def test_a_door_that_the_edition_refuses(self):
        self.refused("add", bridged, newer(), [("add", (N, M), NUM, num())])
        self.refused("twice", bridged, newer(), [TWICE, TWICE])
        for name in ("", "abcdefghi", "Up", "a1", "num", "text"):
            self.refused(name, bridged, newer(), [(name, (), NUM, num())])
        self.faulty(num(), NUM, N, N)
        self.faulty(num(), NUM, ("num", NUM, True))
        self.faulty(num(), NUM, ("n", of("cow"), True))
        self.faulty(num(), of("cow"))
        self.faulty(num(), NUM, ("n", rows_deep(5), True))
        self.faulty(num(), rows_deep(5))
        self.faulty(num(), NUM, ("n", row(calls([calls([], NUM)], NUM)), True))
        self.faulty(num(), NUM, *[(name, NUM, True) for name in "abcdefg"])

    def test_a_kind_may_have_the_name_of_a_bridged_door(self):
        self.assertEqual(len(bridged(newer(), [("dog", (), NUM, num())])), 6)

    def test_a_parameter_that_is_a_callback(self):
        for needed in (True, False):
            self.faulty(num(), NUM, ("f", calls([NUM], NUM), needed))
            self.faulty(num(), NUM, N, ("f", calls([], NUM), needed))
        self.faulty(("ask", hole("f"), ()), NUM, ("f", calls([], NUM), True))

    def test_a_hole_that_is_not_of_a_needed_parameter(self):
        self.faulty(hole("m"), NUM, N)
        self.faulty(hole("n"), NUM, ("n", NUM, False))
        self.faulty(call("add", a=hole("n"), b=hole("z")), NUM, N)
        self.faulty(("answer", 1, hole("z")), NUM, N)
        self.faulty(hole("n"), NUM)

    def test_a_template_without_a_kind(self):
        self.faulty(("call", "nodoor", ()), NUM)
        self.faulty(call("add", a=hole("n")), NUM, N)
        self.faulty(call("add", a=hole("n"), b=text()), NUM, N)
        self.faulty(("get", "name", hole("l")), TEXT, ("l", of("live"), True))

    def test_a_template_is_written_for_the_newer_edition_alone(self):
        self.refused("x", bridged, newer(), [TWICE, ("x", (N,), NUM, call("twice", n=hole("n")))])
        self.faulty(("call", "x", ()), NUM)

    def test_a_template_that_is_an_answer_literal(self):
        self.faulty(("answer", 1, num()), calls([NUM], NUM))
        self.faulty(("answer", 0, hole("n")), calls([], NUM), N)

    def test_a_template_that_does_not_fit_the_answer(self):
        self.faulty(num(), TEXT)
        self.faulty(hole("a"), of("dog"), ("a", of("animal"), True))
        self.faulty(("call", "dogs", ()), of("dog"))
        self.faulty(("call", "maker", ()), calls([TEXT], of("live")))

    def test_too_many_doors(self):
        fifteen = [(name, (), NUM) for name in "abcdefghijklmno"]
        more = [(name * 2, (), NUM, num()) for name in "abc"]
        self.refused("bb", bridged, newer(fifteen), more)
        self.refused("aa", bridged, newer(fifteen + [("p", (), NUM)]), more)
        self.assertEqual(len(bridged(newer(fifteen[:13]), more)), 16)
        self.refused("cc", bridged, newer(fifteen[:14]), more)

    def test_the_first_one_goes_first(self):
        bad = ("bad", (), NUM, text())
        self.refused("bad", bridged, newer(), [TWICE, bad, ("add", (), NUM, num())])
        self.refused("add", bridged, newer(), [TWICE, ("add", (), NUM, num()), bad])
        self.refused("worse", bridged, newer(), [("worse", (("f", calls([], NUM), True),), NUM, text()), bad])
        fifteen = [(name, (), NUM) for name in "abcdefghijklmno"]
        self.refused("bad", bridged, newer(fifteen), [bad, TWICE, NAMED])
        self.refused("named", bridged, newer(fifteen), [("aa", (), NUM, num()), NAMED, bad])

    def test_what_is_refused_changes_nothing(self):
        edition, bridge = newer(), [TWICE, ("add", (), NUM, num())]
        self.refused("add", bridged, edition, bridge)
        self.assertEqual(edition, newer())
        self.assertEqual(bridge, [TWICE, ("add", (), NUM, num())])

    def test_stands_straight_under_still_error(self):
        self.assertEqual(NoBridge.__bases__, (StillError,))


class Unfolded(Case):
    def gives(self, wanted, term, bridge=BRIDGE):
        before = copy.deepcopy(term)
        self.assertEqual(unfolded(bridge, term), wanted)
        self.assertEqual(term, before)

    def test_a_call_becomes_the_template(self):
        self.gives(call("add", a=num(5), b=num(5)), call("twice", n=num(5)))
        self.gives(make("dog", age=num(1), name=text("rex"), tail=num(2)), call("pup", n=num(1), t=text("rex")))
        self.gives(num(3), call("same", m=num(3), n=num(4)))
        self.gives(num(8), call("fixed", n=num(3)))
        self.gives(call("each", f=("answer", 1, num(3)), of=("call", "dogs", ())),
                   call("ages", whose=("call", "dogs", ())))

    def test_all_else_stays(self):
        for term in (num(), text(), ("call", "add", ()), call("add", a=num(), b=num()), ("case", "mood", "calm", None),
                     make("twice", n=num()), ("get", "twice", num()), ("handed", "twice", "n", 0, (("m", num()),)),
                     ("ask", ("call", "maker", ()), ()), ("look", ("twice",), num()), ("call", "nodoor", ())):
            self.gives(term, term)
            self.gives(term, term, bridge=[])
        self.gives(call("twice", n=num()), call("twice", n=num()), bridge=[SAME])

    def test_within_each_word(self):
        inner, wanted = call("twice", n=num(1)), call("add", a=num(1), b=num(1))
        for around in (lambda part: call("add", a=num(), b=part, c=part), lambda part: make("dog", name=part),
                       lambda part: ("get", "name", part), lambda part: ("case", "mood", "loud", part),
                       lambda part: ("as", "loud", part), lambda part: ("look", ("a", "b"), part),
                       lambda part: ("one", part), lambda part: ("answer", 2, part),
                       lambda part: ("ask", part, ()), lambda part: ("ask", num(), (part, text(), part)),
                       lambda part: ("handed", "each", "f", 0, (("a", num()), ("of", part)))):
            self.gives(around(wanted), around(inner))
            self.gives(("answer", 0, around(around(wanted))), ("answer", 0, around(around(inner))))

    def test_calls_of_bridged_doors_within_one_another(self):
        inner = call("add", a=num(1), b=num(1))
        self.gives(call("add", a=inner, b=inner), call("twice", n=call("twice", n=num(1))))
        self.gives(("get", "name", make("dog", age=inner, name=text("rex"), tail=num(2))),
                   call("named", who=call("pup", n=call("twice", n=num(1)), t=text("rex"))))
        self.gives(inner, call("same", m=call("twice", n=num(1)), n=call("fixed", n=num(2))))

    def test_arguments_that_no_hole_takes_are_gone(self):
        self.gives(("get", "name", num(1)), call("named", n=num(2), who=num(1)))
        self.gives(num(8), call("fixed", m=call("twice", n=num()), n=num(), z=text()))
        self.gives(num(8), ("call", "fixed", ()))

    def test_an_argument_left_out_that_the_template_has(self):
        self.refused("twice", unfolded, BRIDGE, ("call", "twice", ()))
        self.refused("named", unfolded, BRIDGE, call("named", n=num()))
        self.refused("pup", unfolded, BRIDGE, call("pup", n=num()))
        self.refused("pup", unfolded, BRIDGE, ("one", ("answer", 0, call("pup", t=num()))))
        self.refused("same", unfolded, BRIDGE, call("same", n=num()))
        self.gives(num(1), call("same", m=num(1)))

    def test_parts_go_first_and_the_first_part_first(self):
        lone, other = ("call", "twice", ()), ("call", "named", ())
        self.refused("twice", unfolded, BRIDGE, call("pup", n=lone))
        self.refused("twice", unfolded, BRIDGE, call("add", a=lone, b=other))
        self.refused("named", unfolded, BRIDGE, call("add", a=other, b=lone))
        self.refused("named", unfolded, BRIDGE, ("ask", call("fixed", z=other), (lone,)))
        self.refused("twice", unfolded, BRIDGE, call("fixed", z=lone))
        self.refused("named", unfolded, BRIDGE, ("call", "pup", (("z", other), ("a", lone))))

    def test_the_template_itself_is_not_unfolded(self):
        self.gives(call("twice", n=num(3)), call("x", n=num(3)), bridge=[
            TWICE, ("x", (N,), NUM, call("twice", n=hole("n")))])

    def test_far_down(self):
        term, wanted = num(1), num(1)
        for _ in range(3000):
            term, wanted = ("answer", 0, call("same", m=term, n=num())), ("answer", 0, wanted)
        told = unfolded(BRIDGE, term)
        self.assertEqual(size(told), 3001)
        while wanted[0] == "answer":
            self.assertEqual(told[:2], wanted[:2])
            told, wanted = told[2], wanted[2]
        self.assertEqual(told, wanted)

    def test_thirty_bridged_doors_within_one_another(self):
        term = num(1)
        for _ in range(30):
            term = call("same", m=term, n=term) if size(term) < 9 else call("same", m=term, n=num())
        self.gives(num(1), term)

    def test_by_names_and_again(self):
        bridge = list(BRIDGE)
        term = call("twice", n=call("pup", n=num(), t=text()))
        first = unfolded(bridge=bridge, term=term)
        self.assertEqual(bridge, BRIDGE)
        self.refused("twice", unfolded, bridge, ("call", "twice", ()))
        bridged(newer(), bridge)
        self.assertEqual(unfolded(bridge, term), first)

    def test_runs_in_the_newer_edition_and_gives_what_fits(self):
        edition = newer()
        for bridge in ([TWICE, PUP], [NAMED, AGES], [SAME, FIXED, PUP], [
                ("rows", (("d", of("live"), True), N), row(of("live")), ("call", "dogs", ())),
                ("give", (("d", of("live"), True),), of("live"), hole("d")),
                ("gain", (("c", calls_row(), True),), of("live"), ("ask", ("one", hole("c")), (num(1),)))]):
            over = bridged(edition, bridge)
            names = [row_[0] for row_ in bridge]
            many = 0
            for _, kind, term in listed(over, 4):
                told = unfolded(bridge, term)
                self.assertTrue(runs(edition, told), (term, told))
                self.assertTrue(fits(edition, kind_of(edition, told), kind), (term, told))
                many += told != term
            self.assertGreater(many, len(names))


def calls_row():
    return row(calls([NUM], of("live")))


class LostDoors(Case):
    def test_sorted_names_of_the_elder_that_the_newer_has_not(self):
        elder = Edition([], [("zed", (), NUM), ("both", (), NUM), ("abe", (N,), TEXT), ("moe", (), NUM)])
        later = Edition([("abe", hidden())], [("both", (N,), TEXT), ("own", (), NUM)])
        self.assertEqual(lost_doors(elder, later), ["abe", "moe", "zed"])
        self.assertEqual(lost_doors(later, elder), ["own"])
        self.assertEqual(lost_doors(elder=elder, newer=elder), [])
        self.assertEqual(lost_doors(Edition([], []), elder), [])
        self.assertEqual(lost_doors(elder, Edition([], [])), ["abe", "both", "moe", "zed"])

    def test_new_and_the_askers_own(self):
        elder = newer()
        told = lost_doors(elder, Edition([], []))
        self.assertIs(type(told), list)
        told.clear()
        self.assertEqual(lost_doors(elder, Edition([], [])), sorted(each[0] for each in DOORS))
        self.assertEqual(elder, newer())


class Mended(Case):
    def test_told_by_the_elder_and_the_bridged_edition(self):
        elder = Edition(KINDS, DOORS + [TWICE[:3], NAMED[:3]], number=(3, 0, 0))
        self.assertEqual(lost_doors(elder, newer()), ["named", "twice"])
        self.assertEqual(break_size(elder, newer()), 2)
        half = bridged(newer(), [TWICE])
        self.assertEqual(least_break(elder, half)[:2], ("call", "named"))
        whole = bridged(newer(), [NAMED, TWICE])
        self.assertIsNone(least_break(elder, whole))
        self.assertIs(relation_holds(elder, whole, relation(elder, whole)), True)


if __name__ == "__main__":
    unittest.main()
