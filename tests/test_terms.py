"""[10], [11], [12], [13]: terms, their sizes and kinds, and what runs and breaks."""

import copy
import unittest

from stillruns.editions import Edition
from stillruns.errors import NoKind
from stillruns.terms import breaks, kind_of, runs, size
from tests.examples import (ADOG, ANIMAL, NUM, SOME, TEACH, TEXT, call, calls, choice, hidden, library, library_doors,
                            library_kinds, make, nested, num, of, record, row, text)

DOGS = ("call", "dogs", ())
SHAPE = ("call", "shape", ())
MOOD = ("call", "mood", ())
NONE = ("call", "none", ())
MAKER = ("call", "maker", ())
PLAIN = ("call", "plain", ())
DOG = make("dog", name=text(), owner=ANIMAL, tail=num())
WRITTEN = ("answer", 2, text())


def handed(place, *arguments, door="teach", parameter="how"):
    return ("handed", door, parameter, place, arguments)


class Case(unittest.TestCase):
    def setUp(self):
        self.edition = library()

    def gives(self, kind, term, edition=None):
        edition = edition or self.edition
        self.assertEqual(kind_of(edition, term), kind)
        self.assertIs(runs(edition, term), True)

    def faulty(self, fault, term, place=(), edition=None):
        edition = edition or self.edition
        with self.assertRaises(NoKind) as caught:
            kind_of(edition, term)
        self.assertIs(type(caught.exception), NoKind)
        self.assertEqual(caught.exception.fault, fault)
        self.assertEqual(caught.exception.place, list(place))
        self.assertIs(type(caught.exception.place), list)
        self.assertIs(runs(edition, term), False)


class Size(unittest.TestCase):
    def test_one_and_the_sizes_of_the_parts(self):
        for wanted, term in [
            (1, num()), (1, text()), (1, SOME), (3, call("add", a=num(), b=num())), (3, ANIMAL), (6, DOG),
            (1, make("lone")), (4, ("get", "name", ANIMAL)), (1, ("case", "shape", "dot", None)),
            (2, ("case", "shape", "ring", num())), (2, ("as", "ring", SHAPE)),
            (2, ("look", ("dot", "pair", "ring"), SHAPE)), (2, ("one", DOGS)), (2, ("answer", 3, num())),
            (2, ("ask", PLAIN, ())), (4, ("ask", MAKER, (ADOG, text()))), (1, ("handed", "three", "go", 0, ())),
            (3, handed(0, ("most", num()), ("who", DOGS))),
        ]:
            with self.subTest(term=term):
                self.assertEqual(size(term), wanted)
                self.assertEqual(size(term=term), wanted)

    def test_of_what_runs_nowhere(self):
        self.assertEqual(size(("call", "nodoor", (("b", num()), ("a", num()), ("b", ("as", "x", num()))))), 5)

    def test_two_hundred_and_more(self):
        term = num()
        for _ in range(99):
            term = call("add", a=term, b=num())
        self.assertEqual(size(term), 199)
        self.assertEqual(size(("answer", 0, term)), 200)
        self.assertEqual(size(nested(5000, num())), 5000)


class Kinds(Case):
    def test_num_and_text(self):
        for n in (0, 1, -1, 10 ** 59, -(10 ** 60 - 1)):
            self.gives(NUM, num(n))
        for t in ("", "a", "abcdefghijkl"):
            self.gives(TEXT, text(t))

    def test_call(self):
        self.gives(NUM, ("call", "zero", ()))
        self.gives(NUM, call("add", a=num(), b=num()))
        self.gives(NUM, call("add", a=num(), b=num(), c=num()))
        self.gives(row(row(of("thing"))), call("keep", what=SOME))
        self.gives(row(row(of("thing"))), call("keep", what=ADOG))
        self.gives(row(TEXT), call("teach", how=WRITTEN, who=DOGS))
        self.gives(row(TEXT), call("teach", how=WRITTEN, most=num(), who=DOGS))
        self.gives(calls([of("animal"), TEXT], of("shape")), MAKER)
        self.gives(NUM, call("later", who=ADOG))
        self.gives(NUM, call("later", then=("answer", 0, ADOG), who=ADOG))
        self.gives(NUM, call("three", go=("answer", 3, num())))

    def test_make(self):
        self.gives(of("animal"), ANIMAL)
        self.gives(of("animal"), make("animal", age=num(), name=text(), owner=ADOG))
        self.gives(of("dog"), DOG)
        self.gives(of("lone"), ("make", "lone", ()))

    def test_get(self):
        self.gives(TEXT, ("get", "name", ANIMAL))
        self.gives(row(NUM), ("get", "age", ANIMAL))
        self.gives(of("thing"), ("get", "owner", ANIMAL))
        self.gives(of("animal"), ("get", "owner", ADOG))

    def test_get_of_a_row_four_deep_gives_one_five_deep(self):
        deep = row(row(row(NUM)))
        edition = Edition([("a", record(("x", deep, False)))], [("some", (), of("a"))])
        self.gives(row(deep), ("get", "x", SOME), edition)

    def test_case(self):
        self.gives(of("shape"), ("case", "shape", "dot", None))
        self.gives(of("shape"), ("case", "shape", "ring", num()))
        self.gives(of("shape"), ("case", "shape", "pair", ANIMAL))
        self.gives(of("shape"), ("case", "shape", "pair", ADOG))
        self.gives(of("mood"), ("case", "mood", "loud", num()))

    def test_as(self):
        self.gives(NUM, ("as", "ring", SHAPE))
        self.gives(of("animal"), ("as", "pair", SHAPE))
        self.gives(NUM, ("as", "loud", MOOD))

    def test_look(self):
        self.gives(NUM, ("look", ("dot", "pair", "ring"), SHAPE))
        self.gives(NUM, ("look", (), NONE))

    def test_one(self):
        self.gives(of("dog"), ("one", DOGS))
        self.gives(of("thing"), ("one", ("one", call("keep", what=SOME))))
        self.gives(NUM, ("one", ("get", "age", ANIMAL)))

    def test_answer(self):
        self.gives(("answers", 0, NUM), ("answer", 0, num()))
        self.gives(("answers", 7, of("dog")), ("answer", 7, ADOG))
        self.gives(("answers", 1, ("answers", 2, TEXT)), ("answer", 1, WRITTEN))

    def test_ask(self):
        self.gives(of("shape"), ("ask", MAKER, (ANIMAL, text())))
        self.gives(of("shape"), ("ask", MAKER, (ADOG, text())))
        self.gives(NUM, ("ask", PLAIN, ()))

    def test_handed(self):
        self.gives(of("dog"), handed(0, ("who", DOGS)))
        self.gives(NUM, handed(1, ("who", DOGS)))
        self.gives(NUM, handed(1, ("most", num()), ("who", DOGS)))
        self.gives(TEXT, ("handed", "three", "go", 1, ()))
        self.gives(of("mood"), ("handed", "three", "go", 2, ()))

    def test_thirty_deep_and_size_two_hundred(self):
        term = num()
        for _ in range(29):
            term = call("add", a=term, b=num(), c=num(10 ** 59))
        self.gives(NUM, term)
        term = num()
        for _ in range(66):
            term = call("add", a=num(), b=num(), c=term)
        self.assertEqual(size(term), 199)
        self.gives(NUM, term)

    def test_far_deeper(self):
        term = ("call", "adog", ())
        for _ in range(3000):
            term = ("get", "owner", make("dog", name=text(), owner=term, tail=num()))
        self.gives(of("animal"), term)
        self.faulty("record", ("get", "owner", ("get", "name", term)))

    def test_by_names(self):
        self.assertEqual(kind_of(edition=self.edition, term=ANIMAL), of("animal"))
        self.assertIs(runs(edition=self.edition, term=ANIMAL), True)


class Faults(Case):
    """Each fault of each word, and which of several goes first."""

    def test_call(self):
        x = text()
        self.faulty("door", ("call", "nodoor", ()))
        self.faulty("door", ("call", "dog", ()))
        self.faulty("door", ("call", "nodoor", (("z", x), ("a", x))))
        self.faulty("args", ("call", "add", (("z", x), ("a", x))))
        self.faulty("args", ("call", "add", (("a", num()), ("a", num()), ("b", num()))))
        self.faulty("args", ("call", "add", (("b", num()), ("a", num()))))
        self.faulty("args", ("call", "zero", (("b", num()), ("a", num()))))
        self.faulty("param", call("add", a=x, z=x))
        self.faulty("param", call("add", a=num(), b=num(), z=num()))
        self.faulty("param", call("zero", a=num()))
        self.faulty("left", call("add", a=x))
        self.faulty("left", call("add", b=num(), c=num()))
        self.faulty("left", ("call", "keep", ()))
        self.faulty("kind", call("add", a=x, b=num()))
        self.faulty("kind", call("add", a=num(), b=num(), c=x))
        self.faulty("kind", call("later", who=SOME))

    def test_call_with_callbacks(self):
        self.faulty("kind", call("teach", how=("answer", 1, text()), who=DOGS))
        self.faulty("kind", call("teach", how=("answer", 2, num()), who=DOGS))
        self.faulty("kind", call("teach", how=text(), who=DOGS))
        self.faulty("kind", call("later", then=("answer", 0, num()), who=ADOG))
        self.faulty("kind", call("add", a=("answer", 0, num()), b=num()))
        self.faulty("kind", call("later", then=("answer", 0, ("answer", 0, ADOG)), who=ADOG))

    def test_make(self):
        x = num()
        for name in ("cow", "shape", "thing", "zero"):
            self.faulty("record", ("make", name, ()))
        self.faulty("record", ("make", "cow", (("z", x), ("a", x))))
        self.faulty("args", ("make", "animal", (("z", x), ("name", x))))
        self.faulty("args", ("make", "animal", (("owner", SOME), ("name", text()))))
        self.faulty("args", ("make", "animal", (("name", text()), ("name", text()), ("owner", SOME))))
        self.faulty("param", make("animal", name=x, tail=x))
        self.faulty("param", make("lone", a=x))
        self.faulty("left", make("animal", name=x))
        self.faulty("left", make("dog", age=x, name=text(), owner=ADOG))
        self.faulty("kind", make("animal", name=x, owner=SOME))
        self.faulty("kind", make("animal", age=text(), name=text(), owner=SOME))
        self.faulty("kind", make("dog", name=text(), owner=SOME, tail=x))

    def test_get(self):
        for part in (num(), text(), SOME, SHAPE, DOGS, PLAIN, ("answer", 0, ANIMAL)):
            self.faulty("record", ("get", "name", part))
            self.faulty("record", ("get", "nofield", part))
        self.faulty("param", ("get", "nofield", ANIMAL))
        self.faulty("param", ("get", "tail", ANIMAL))
        self.faulty("param", ("get", "name", make("lone")))

    def test_case(self):
        for name in ("cow", "animal", "thing", "zero"):
            self.faulty("choice", ("case", name, "dot", None))
            self.faulty("choice", ("case", name, "nocase", num()))
        self.faulty("param", ("case", "shape", "nocase", None))
        self.faulty("param", ("case", "shape", "nocase", num()))
        self.faulty("param", ("case", "none", "dot", None))
        self.faulty("left", ("case", "shape", "dot", num()))
        self.faulty("left", ("case", "shape", "ring", None))
        self.faulty("kind", ("case", "shape", "ring", text()))
        self.faulty("kind", ("case", "shape", "pair", SOME))

    def test_as(self):
        for part in (num(), SOME, ANIMAL, PLAIN, DOGS):
            self.faulty("choice", ("as", "ring", part))
            self.faulty("choice", ("as", "nocase", part))
        self.faulty("param", ("as", "nocase", SHAPE))
        self.faulty("param", ("as", "ring", MOOD))
        self.faulty("left", ("as", "dot", SHAPE))
        self.faulty("left", ("as", "calm", MOOD))

    def test_look(self):
        for part in (num(), SOME, ANIMAL, PLAIN, DOGS):
            self.faulty("choice", ("look", (), part))
        self.faulty("open", ("look", ("calm", "loud"), MOOD))
        self.faulty("open", ("look", ("b", "a"), MOOD))
        for cases in ((), ("dot",), ("dot", "pair"), ("dot", "ring", "pair"), ("dot", "pair", "ring", "square"),
                      ("dot", "dot", "pair", "ring"), ("dot", "pair", "rang"), ("pair", "ring")):
            self.faulty("args", ("look", cases, SHAPE))
        self.faulty("args", ("look", ("a",), NONE))

    def test_one(self):
        for part in (num(), ANIMAL, PLAIN, ("answer", 0, DOGS), SHAPE):
            self.faulty("row", ("one", part))

    def test_ask(self):
        for part in (num(), ADOG, ("answer", 0, num()), ("answer", 2, SHAPE)):
            self.faulty("calls", ("ask", part, ()))
            self.faulty("calls", ("ask", part, (num(), num())))
        self.faulty("args", ("ask", MAKER, ()))
        self.faulty("args", ("ask", MAKER, (num(),)))
        self.faulty("args", ("ask", MAKER, (num(), num(), num())))
        self.faulty("args", ("ask", PLAIN, (num(),)))
        self.faulty("kind", ("ask", MAKER, (ANIMAL, num())))
        self.faulty("kind", ("ask", MAKER, (SOME, text())))
        self.faulty("kind", ("ask", MAKER, (text(), ANIMAL)))

    def test_handed(self):
        x = num()
        wrong = (("z", x), ("how", x))
        self.faulty("door", handed(9, *wrong, door="nodoor", parameter="z"))
        self.faulty("param", handed(9, *wrong, parameter="z"))
        self.faulty("calls", handed(9, *wrong, parameter="most"))
        self.faulty("calls", handed(0, *wrong, parameter="who"))
        self.faulty("place", handed(2, *wrong))
        self.faulty("args", handed(1, *wrong))
        self.faulty("args", handed(1, ("who", DOGS), ("who", DOGS)))
        self.faulty("param", handed(1, ("how", x), ("most", text())))
        self.faulty("param", handed(1, ("how", WRITTEN), ("who", DOGS)))
        self.faulty("param", handed(1, ("most", x), ("z", x)))
        self.faulty("left", handed(1, ("most", text())))
        self.faulty("left", handed(1))
        self.faulty("kind", handed(1, ("who", x)))
        self.faulty("kind", handed(1, ("most", text()), ("who", DOGS)))

    def test_places_below_nought_and_beyond(self):
        good = ("who", DOGS)
        for place in (-1, -2, -3, 2, 3, 10 ** 59, -(10 ** 59)):
            self.faulty("place", handed(place, good))
        for place in (-1, 3):
            self.faulty("place", ("handed", "three", "go", place, ()))
        for place in (-1, 0, 1):
            self.faulty("place", ("handed", "later", "then", place, (("who", ADOG),)))

    def test_a_row_of_calls_is_no_calls(self):
        edition = Edition([], [("a", (("x", row(calls([NUM], NUM)), True),), row(calls([NUM], NUM)))])
        self.faulty("calls", ("handed", "a", "x", 0, ()), edition=edition)

    def test_all_needed_but_the_callback_itself(self):
        both = (("f", calls([NUM], NUM), True), ("g", calls([NUM], NUM), True))
        edition = Edition([], [("a", both, NUM)])
        answer = ("answer", 1, num())
        self.gives(NUM, ("handed", "a", "f", 0, (("g", answer),)), edition)
        self.gives(NUM, ("handed", "a", "g", 0, (("f", answer),)), edition)
        self.faulty("left", ("handed", "a", "f", 0, ()), edition=edition)
        self.faulty("param", ("handed", "a", "f", 0, (("f", answer), ("g", answer))), edition=edition)
        self.faulty("param", ("handed", "a", "f", 0, (("f", answer),)), edition=edition)

    def test_taken_kinds_of_the_answers_fit(self):
        edition = Edition([("up", hidden()), ("low", hidden("up"))],
                          [("a", (("f", calls([of("low")], of("up")), True),), NUM), ("low", (), of("low")),
                           ("mine", (), calls([of("up")], of("low"))), ("not", (), calls([of("low")], NUM))])
        self.gives(NUM, call("a", f=("call", "mine", ())), edition)
        self.gives(NUM, call("a", f=("answer", 1, ("call", "low", ()))), edition)
        self.faulty("kind", call("a", f=("call", "not", ())), edition=edition)


class Places(Case):
    def test_of_the_term_itself(self):
        self.faulty("door", ("call", "nodoor", ()), [])

    def test_of_each_word(self):
        bad = ("call", "nodoor", ())
        for place, term in [
            ([1], call("add", a=num(), b=bad)),
            ([0], make("animal", name=bad, owner=SOME)),
            ([0], ("get", "name", bad)),
            ([0], ("case", "shape", "ring", bad)),
            ([0], ("as", "ring", bad)),
            ([0], ("look", (), bad)),
            ([0], ("one", bad)),
            ([0], ("answer", 0, bad)),
            ([0], ("ask", bad, ())),
            ([2], ("ask", MAKER, (ADOG, bad))),
            ([1], handed(0, ("most", num()), ("who", bad))),
        ]:
            with self.subTest(term=term):
                self.faulty("door", term, place)

    def test_leads_through_several(self):
        bad = ("get", "tail", ANIMAL)
        inner = call("add", a=num(), b=num(), c=("one", bad))
        term = ("ask", MAKER, (ADOG, text(), make("lone", a=inner)))
        self.faulty("param", term, [3, 0, 2, 0])

    def test_parts_go_first_and_the_first_part_first(self):
        door, record_fault = ("call", "nodoor", ()), ("get", "x", num())
        self.faulty("record", call("add", a=num(), b=record_fault, c=door), [1])
        self.faulty("door", call("add", a=num(), b=door, c=record_fault), [1])
        self.faulty("record", ("call", "nodoor", (("z", record_fault), ("a", door))), [0])
        self.faulty("record", ("call", "add", (("b", ("one", record_fault)), ("b", door))), [0, 0])
        self.faulty("door", ("make", "cow", (("a", door),)), [0])
        self.faulty("door", ("case", "cow", "x", door), [0])
        self.faulty("door", ("as", "x", door), [0])
        self.faulty("door", ("ask", num(), (text(), door)), [2])
        self.faulty("door", ("handed", "nodoor", "x", 0, (("a", num()), ("a", door))), [1])

    def test_the_first_faulty_part_is_the_deepest_of_it(self):
        inner = ("one", ("get", "x", ("as", "ring", num())))
        self.faulty("choice", ("answer", 0, ("answer", 1, inner)), [0, 0, 0, 0])

    def test_the_place_is_the_askers_own(self):
        term = ("one", num())
        for _ in range(2):
            with self.assertRaises(NoKind) as caught:
                kind_of(self.edition, ("one", term))
            self.assertEqual(caught.exception.place, [0])
            caught.exception.place.append(7)

    def test_far_down(self):
        self.faulty("door", nested(31, ("call", "nodoor", ())), [0] * 30)
        self.faulty("door", nested(3001, ("call", "nodoor", ())), [0] * 3000)


class Breaks(unittest.TestCase):
    def setUp(self):
        self.elder = library()
        self.newer = Edition(library_kinds(), [door for door in library_doors() if door[0] != "zero"])

    def test_runs_in_the_elder_and_not_in_the_newer(self):
        gone = call("add", a=num(), b=("call", "zero", ()))
        self.assertIs(breaks(self.elder, self.newer, gone), True)
        self.assertIs(breaks(self.newer, self.elder, gone), False)
        self.assertIs(breaks(self.elder, self.elder, gone), False)
        self.assertIs(breaks(self.elder, self.newer, num()), False)

    def test_what_runs_nowhere_breaks_nowhere(self):
        for term in (("call", "nodoor", ()), ("one", ("call", "zero", ()))):
            self.assertIs(breaks(self.elder, self.newer, term), False)
            self.assertIs(breaks(self.newer, self.elder, term), False)

    def test_by_other_kinds(self):
        elder = Edition([("c", choice(("a", None)))], [])
        newer = Edition([("c", choice(("a", None), ("b", None)))], [])
        look = ("look", ("a",), ("case", "c", "a", None))
        self.assertIs(breaks(elder, newer, look), True)
        self.assertIs(breaks(elder, newer, look[2]), False)

    def test_by_names(self):
        self.assertIs(breaks(elder=self.elder, newer=self.newer, term=("call", "zero", ())), True)


class Unchanged(unittest.TestCase):
    def test_terms_and_editions_stay_as_they_were(self):
        edition, other = library(), library()
        for term in (DOG, call("teach", how=WRITTEN, who=DOGS), handed(0, ("how", num())), ("one", num())):
            before = copy.deepcopy(term)
            size(term)
            runs(edition, term)
            breaks(edition, other, term)
            self.assertEqual(term, before)
            self.assertEqual(edition, other)
            self.assertEqual(edition.kinds(), library_kinds())
            self.assertEqual(edition.doors(), library_doors())

    def test_the_same_is_told_again(self):
        edition = library()
        for _ in range(2):
            self.assertEqual(kind_of(edition, DOG), of("dog"))
            self.assertIs(runs(edition, ("one", num())), False)
        self.assertEqual(TEACH, calls([of("dog"), NUM], TEXT))


if __name__ == "__main__":
    unittest.main()
