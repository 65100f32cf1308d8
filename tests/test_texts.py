"""[25], [26]: the writings of kinds, editions and terms."""

import copy
import unittest

from stillruns.editions import Edition
from stillruns.terms import runs, size
from stillruns.texts import show_edition, show_kind, show_term
from tests.examples import NUM, call, calls, library, library_doors, make, nested, num, record, text
from tests.listing import listed
from tests.making import made_couple
from tests.writings import EDITIONS, KINDS, LIBRARY, TERMS


class Kinds(unittest.TestCase):
    def test_each_kind(self):
        for kind, writing in KINDS:
            with self.subTest(writing):
                self.assertEqual(show_kind(kind), writing)
                self.assertEqual(show_kind(kind=kind), writing)


class Editions(unittest.TestCase):
    def test_each_edition(self):
        for edition, writing in EDITIONS:
            with self.subTest(writing[:100]):
                self.assertEqual(show_edition(edition), writing)
                self.assertEqual(show_edition(edition=edition), writing)

    def test_the_library(self):
        self.assertEqual(show_edition(library()), LIBRARY)

    def test_the_order_is_the_order_that_was_handed_in(self):
        kinds = [("b", record()), ("a", record(("y", NUM, True), ("x", NUM, True)))]
        doors = [("d", (("y", NUM, True), ("x", NUM, True)), NUM), ("c", (), NUM)]
        writing = "; record b(); record a(y num, x num); door d(y num, x num) -> num; door c() -> num"
        self.assertEqual(show_edition(Edition(kinds, doors)), "1.0.0" + writing)
        self.assertEqual(show_edition(Edition(kinds[::-1], doors[::-1])),
                         "1.0.0; record a(y num, x num); record b(); door c() -> num; door d(y num, x num) -> num")

    def test_each_edition_has_its_own_writing(self):
        editions = [edition for seed in range(150) for edition in made_couple(seed)]
        by_writing = {}
        for edition in editions:
            other = by_writing.setdefault(show_edition(edition), edition)
            self.assertEqual(other, edition)
        self.assertEqual(len(by_writing), len([at for at, edition in enumerate(editions)
                                               if edition not in editions[:at]]))

    def test_numbers_of_more_figures_are_written_too(self):
        self.assertEqual(show_edition(Edition([], [], number=(10 ** 70, 0, 0))), "1" + "0" * 70 + ".0.0")

    def test_the_edition_stays_and_is_written_so_again(self):
        edition = library()
        self.assertEqual(show_edition(edition), LIBRARY)
        show_edition(Edition([], []))
        self.assertEqual(show_edition(edition), LIBRARY)
        self.assertEqual(edition, library())


class Terms(unittest.TestCase):
    def test_each_term(self):
        for term, writing in TERMS:
            with self.subTest(writing):
                self.assertEqual(show_term(term), writing)
                self.assertEqual(show_term(term=term), writing)

    def test_terms_within_terms(self):
        dog = make("dog", tail=num(2), name=text("rex"), owner=make("lone"))
        term = call("teach", who=("one", ("get", "kin", dog)), how=("answer", 2, ("as", "ring", call("shape"))))
        self.assertEqual(show_term(term), "teach(how: (2 -> (shape() as ring)),"
                                          " who: one(new dog(name: 'rex', owner: new lone(), tail: 2).kin))")

    def test_terms_that_run_nowhere_are_written_too(self):
        term = ("one", ("num", 1))
        self.assertFalse(runs(library(), term))
        self.assertEqual(show_term(term), "one(1)")

    def test_deep_terms_and_great_ones(self):
        self.assertEqual(show_term(nested(230, num(5))), "(0 -> " * 229 + "5" + ")" * 229)
        self.assertEqual(show_term(nested(3000, num(5))), "(0 -> " * 2999 + "5" + ")" * 2999)
        broad = call("f", a=nested(30, num()), b=("ask", num(1), (num(2),) * 100))
        self.assertEqual(show_term(broad), "f(a: " + "(0 -> " * 29 + "1" + ")" * 29 + ", b: ask(1: "
                         + ", ".join(["2"] * 100) + "))")

    def test_different_terms_are_written_differently(self):
        edition = Edition([("c", record())], [("f", (("p", NUM, False), ("q", calls([NUM], NUM), False)), NUM)])
        terms = {term for _, _, term in listed(edition, 4)}
        self.assertGreater(len(terms), 20)
        self.assertEqual(len({show_term(term) for term in terms}), len(terms))

    def test_a_part_more_is_a_writing_longer(self):
        edition = Edition([], library_doors()[:2])
        for _, _, term in listed(edition, 5):
            self.assertEqual(size(("one", term)), size(term) + 1)
            self.assertEqual(show_term(("one", term)), "one(" + show_term(term) + ")")

    def test_the_term_stays(self):
        for term, writing in TERMS:
            kept = copy.deepcopy(term)
            show_term(term)
            self.assertEqual(term, kept)
            self.assertEqual(show_term(term), writing)


if __name__ == "__main__":
    unittest.main()
