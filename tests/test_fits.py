"""[9]: which kinds fit which."""

import unittest

from stillruns.editions import Edition, fits
from tests.examples import NUM, TEXT, calls, hidden, library, library_kinds, of, record, row


def answers(count, kind):
    return ("answers", count, kind)


class Fits(unittest.TestCase):
    def setUp(self):
        self.edition = library()

    def check(self, wanted_truth, pairs):
        for given, wanted in pairs:
            with self.subTest(given=given, wanted=wanted):
                self.assertIs(fits(self.edition, given, wanted), wanted_truth)

    def test_each_fits_itself(self):
        kinds = [NUM, TEXT, of("dog"), of("shape"), row(row(NUM)), calls([NUM, of("dog")], TEXT), calls([], NUM),
                 answers(2, of("dog"))]
        self.check(True, [(kind, kind) for kind in kinds])

    def test_no_other_ones_fit(self):
        kinds = [NUM, TEXT, of("dog"), of("shape"), of("lone"), row(NUM), row(row(NUM)), calls([], NUM),
                 calls([NUM], NUM), calls([], TEXT), answers(3, NUM)]
        self.check(False, [(one, other) for one in kinds for other in kinds if one != other])

    def test_what_stands_under(self):
        chain = ["dog", "animal", "live", "thing"]
        pairs = [(of(chain[low]), of(chain[high])) for low in range(4) for high in range(low + 1, 4)]
        self.check(True, pairs)
        self.check(False, [(wanted, given) for given, wanted in pairs])

    def test_rows(self):
        self.check(True, [(row(of("dog")), row(of("live"))), (row(row(of("dog"))), row(row(of("thing"))))])
        self.check(False, [(row(of("live")), row(of("dog"))), (row(of("dog")), of("thing")),
                           (of("dog"), row(of("dog"))), (row(row(of("dog"))), row(of("dog")))])

    def test_calls_take_more_and_answer_less(self):
        self.check(True, [
            (calls([], of("dog")), calls([], of("live"))),
            (calls([of("live")], NUM), calls([of("dog")], NUM)),
            (calls([of("live"), NUM, of("thing")], of("dog")), calls([of("dog"), NUM, of("animal")], of("animal"))),
            (calls([row(of("live"))], NUM), calls([row(of("dog"))], NUM)),
            (row(calls([of("live")], NUM)), row(calls([of("dog")], NUM))),
        ])
        self.check(False, [
            (calls([], of("live")), calls([], of("dog"))),
            (calls([of("dog")], NUM), calls([of("live")], NUM)),
            (calls([of("live"), of("dog")], NUM), calls([of("dog"), of("live")], NUM)),
            (calls([of("live"), TEXT], NUM), calls([of("dog"), NUM], NUM)),
            (calls([NUM, TEXT], NUM), calls([TEXT, NUM], NUM)),
        ])

    def test_calls_are_as_many(self):
        self.check(False, [(calls([NUM], NUM), calls([NUM, NUM], NUM)), (calls([NUM, NUM], NUM), calls([NUM], NUM)),
                           (calls([], NUM), calls([NUM], NUM)), (calls([NUM], NUM), calls([], NUM))])

    def test_answers_fit_calls_of_as_many(self):
        self.check(True, [(answers(0, NUM), calls([], NUM)), (answers(2, of("dog")), calls([TEXT, NUM], of("thing"))),
                          (row(answers(1, NUM)), row(calls([TEXT], NUM)))])
        self.check(False, [(answers(1, NUM), calls([], NUM)), (answers(1, NUM), calls([NUM, NUM], NUM)),
                           (answers(1, of("thing")), calls([TEXT], of("dog"))), (answers(1, NUM), calls([NUM], TEXT)),
                           (calls([], NUM), answers(0, NUM)), (answers(0, NUM), NUM), (NUM, answers(0, NUM))])

    def test_answers_fit_answers_of_as_many(self):
        self.check(True, [(answers(3, of("dog")), answers(3, of("live"))),
                          (answers(1, answers(0, of("dog"))), answers(1, answers(0, of("live"))))])
        self.check(False, [(answers(3, of("live")), answers(3, of("dog"))),
                           (answers(3, of("dog")), answers(2, of("live"))), (answers(3, NUM), answers(2, NUM)),
                           (answers(1, answers(0, of("dog"))), answers(1, answers(2, of("live"))))])

    def test_what_the_edition_has_not_fits_nothing_but_itself(self):
        strange = [of("cow"), row(of("cow")), calls([of("cow")], NUM), calls([], of("cow")), answers(1, of("cow")),
                   row(calls([NUM, row(of("cow"))], NUM))]
        self.check(True, [(kind, kind) for kind in strange])
        self.check(False, [(one, other) for one in strange for other in strange if one != other])
        self.check(False, [
            (of("cow"), of("thing")), (of("dog"), of("cow")),
            (answers(1, NUM), calls([of("cow")], NUM)),
            (answers(1, of("dog")), calls([of("cow")], of("thing"))),
            (calls([of("cow")], of("dog")), calls([of("cow")], of("thing"))),
            (calls([of("cow"), of("live")], NUM), calls([of("cow"), of("dog")], NUM)),
        ])

    def test_a_door_is_no_kind(self):
        self.check(False, [(of("zero"), NUM), (NUM, of("zero")), (of("adog"), of("dog"))])

    def test_stands_under_by_several_ways(self):
        edition = Edition([("a", hidden("b", "c")), ("b", hidden()), ("c", hidden("d")), ("d", hidden())], [])
        self.assertIs(fits(edition, of("a"), of("d")), True)
        self.assertIs(fits(edition, of("a"), of("b")), True)
        self.assertIs(fits(edition, of("b"), of("d")), False)

    def test_records_alike_do_not_fit(self):
        edition = Edition([("a", record(("x", NUM, True))), ("b", record(("x", NUM, True)))], [])
        self.assertIs(fits(edition, of("a"), of("b")), False)

    def test_by_names_and_nothing_changes(self):
        self.assertIs(fits(edition=self.edition, given=of("dog"), wanted=of("live")), True)
        self.assertEqual(self.edition, library())
        self.assertEqual(self.edition.kinds(), library_kinds())


if __name__ == "__main__":
    unittest.main()
