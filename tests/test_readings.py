"""[25]: kinds and editions read from their writings, and NoText of any other text."""

import itertools
import random
import unittest

from stillruns.editions import Edition
from stillruns.errors import NoText
from stillruns.kinds import depth, has_calls_in_calls
from stillruns.readings import read_edition, read_kind
from stillruns.texts import show_edition, show_kind
from tests.examples import NUM, calls, hidden, library, record, row, rows_deep
from tests.making import made_couple
from tests.writings import EDITIONS, KINDS, LETTERS, LIBRARY, WIDE


def entries(table):
    """The texts of a table, parted by upright lines."""
    return table.replace("\n", "").split("|")


# Each of them differs a little from a writing.
NO_KINDS = entries(""" |num |( num)|Num|nuM|num1|1|_|a b|a,b|abcdefghi|numnumnum|[]|[num|num]|[ num]|[num ]
|[[num]|[num]]|(num)|()|(->)|(-> )|(->num)|( -> num)|(-> num|-> num|(-> num) |(num-> num)|(num ->num)
|(num  -> num)|(num -> num )|(num -> num))|(num,num -> num)|(num , num -> num)|(num,  num -> num)
|(, num -> num)|(num, -> num)|(num,, num -> num)|(num -> )|(num, num)|(num -> num -> num)
|(num -> num, num)|[num, num]|[num]?|num?|?num|num, num|num; num|..|[..]|[-> num]|(num; num -> num)|'a'
|(num - > num)|(num => num)|{num}|(num num -> num)|[num)|(-> num]""")
FIVE_DEEP = ["[[[[num]]]]", "[[[(-> num)]]]", "[[(-> [num])]]", "(-> [[[num]]])", "([[[num]]] -> num)",
             "[([[num]] -> num)]"]
SIX_DEEP = ["[[[[[num]]]]]", "[[[[(-> num)]]]]", "(-> [[[[num]]]])", "([[[[num]]]] -> num)",
            "(num, [[[[a]]]] -> num)", "[([[[num]]] -> num)]",
            "[" * 2000 + "num" + "]" * 2000, "(-> " * 1000 + "num" + ")" * 1000, "[" * 6000]
CALLS_IN_CALLS = ["(-> (-> num))", "((-> num) -> num)", "(num, (num -> num) -> num)", "(-> [(-> num)])",
                  "([(-> num)] -> num)", "[(-> (-> num))]", "((num -> a), (num -> a) -> a)"]
FOUR_CALLED = ["(num, num, num, num -> num)", "[(a, b, c, d -> e)]", "(" + "num, " * 1000 + "num -> num)"]

NO_EDITIONS = entries("""|1|1.0|1.0.|1.0.0.|1.0.0.0|.0.0|1..0|1.0.0 |1.0. 0| 1.0.0|1.0.0;|1.0.0; |1,0,0|01.0.0
|1.00.0|1.0.01|00.0.0|-1.0.0|1.-1.0|1.0.-0|+1.0.0|a.b.c|1.0.0a|1.0.0record a()|1_0.0.0|1.0x1.0|1e1.0.0
|0x1.0.0|v1.0.0""")
NO_MEMBERS = entries("""record a|record a(|record a)|record a ()|record  a()| record a()|record a() |record a( )
|record (a)|record ()|record a(f)|record a(f num|record a(f  num)|record a( f num)|record a(f num )
|record a(f num,)|record a(f num, )|record a(, f num)|record a(f num,g num)|record a(f num g num)
|record a(f num; g num)|record a(f ? num)|record a(f?num)|record a(f??  num)|record a(f num?)
|record a(?f num)|record a(f: num)|record a(num)|record a(..)|record a(f num, ..)|record a() under
|record a() under |record a()under a|record a() under b,|record a() under b, |record a() under b b
|record a() under b,h|record a() under h;|record a() under (h)|record a()  under h|record a() above h
|record a(), b()|record a()) under h|Record a()|recorda()|rec a()|record a|record A()|record abcdefghi()
|record num()|record text()|record a(num num)|record a(text num)|record a(f none)|record a(f num) under
|record|record ||hidden|hidden |hidden a()|hidden a under|hidden a under |hidden a under h,|hidden a, b
|hidden  a|hidden a |hidden num|hidden a under h h|hidden a()|choice a|choice a(|choice a( )|choice a(x,)
|choice a(x, )|choice a(,x)|choice a(x,y)|choice a(x y z)|choice a(x num,)|choice a(x  num)|choice a(x )
|choice a( x)|choice a(x..)|choice a(x,..)|choice a(.., x)|choice a(..,)|choice a(.., ..)|choice a(...)
|choice a(.)|choice a(. .)|choice a( ..)|choice a(.. )|choice a(x, .., y)|choice a(x?)|choice a(x? num)
|choice a(.. num)|choice a() under h|choice a(x) under h|choice a(num)|choice a(x text text)
|choice a(x, ..) ..|choice a()..|door|door a|door a()|door a() num|door a()-> num|door a() ->num
|door a() -> |door a() ->|door a()  -> num|door a() ->  num|door a -> num|door a(-> num)|door a(p) -> num
|door a(p num,) -> num|door a(num) -> num|door a(p num) -> num, num|door a(p ?num) -> num
|door a(..) -> num|door a() -> num under h|door a() -> num |door a() -> ()|door a() -> none
|door a(p num) -> num -> num|door num() -> num|door A() -> num|door a() => num|new a()|kind a()|a()
|doors a() -> num|record a() -> num|choice a(x [])|choice a(x [num)|door a() -> [num|door a() -> num]""")
# Written well, and faulty by [7].
FAULTY = entries("""record a(); record a()|record a(); hidden a|door a() -> num; door a() -> num
|record a(f num, f num)|record a(f num, f? num)|choice c(x, x)|choice c(x, x num)
|door d(p num, p num) -> num|hidden a under h, h|record a(f b)|record a(f [b])|choice c(x b)
|door d() -> b|door d(p (b -> num)) -> num|record a(f [[[[num]]]])|choice c(x [[[[num]]]])
|door d() -> [[[[num]]]]|door d(p (-> [[[num]]])) -> num|record a(f (-> (-> num)))
|door d(p (num, num, num, num -> num)) -> num|record a() under b|hidden a under b
|choice c(); record a() under c|record a(); hidden b under a|record a() under a|hidden a under a
|hidden a under b; hidden b under a|record a() under b; record b() under a
|record a(f num); record b() under a|record a(f num); record b(f? num) under a
|record a(f num); record b(f text) under a|record a(f? num); record b(f num) under a
|record a(p num, q num, r num, s num, t num, u num, v num)|choice c(p, q, r, s, t, u, v)
|choice c(p, q, r, s, t, u, v, ..)|door d(p num, q num, r num, s num, t num, u num, v num) -> num""")


class Case(unittest.TestCase):
    def refused(self, read, told):
        with self.assertRaises(NoText) as caught:
            read(told)
        self.assertIs(type(caught.exception), NoText)
        self.assertEqual(caught.exception.what, told)


class Kinds(Case):
    def test_what_is_written_is_read_back(self):
        for kind, writing in KINDS:
            with self.subTest(writing):
                self.assertEqual(read_kind(writing), kind)
                self.assertEqual(read_kind(text=writing), kind)

    def test_any_other_text(self):
        for told in [""] + NO_KINDS:
            with self.subTest(told):
                self.refused(read_kind, told)

    def test_five_deep_and_six_deep(self):
        for told in FIVE_DEEP:
            with self.subTest(told):
                self.assertEqual(depth(read_kind(told)), 5)
                self.assertEqual(show_kind(read_kind(told)), told)
        for told in SIX_DEEP:
            with self.subTest(told[:50]):
                self.refused(read_kind, told)

    def test_callbacks(self):
        self.assertEqual(read_kind("(a, b, c -> d)")[1], (("of", "a"), ("of", "b"), ("of", "c")))
        for told in CALLS_IN_CALLS + FOUR_CALLED:
            with self.subTest(told[:50]):
                self.refused(read_kind, told)

    def test_names_that_nobody_declared(self):
        self.assertEqual(read_kind("zebra"), ("of", "zebra"))
        self.assertEqual(read_kind("nums"), ("of", "nums"))

    def test_all_short_texts(self):
        """Of all texts of up to five such pieces just the writings are read."""
        pieces = ["[", "]", "(", ")", "-> ", " -> ", ", ", "num", "a", " "]
        kinds = [NUM, ("of", "a")]
        for _ in range(2):
            kinds += [row(kind) for kind in kinds] + [calls(each, kind) for kind in kinds for many in (0, 1)
                                                      for each in itertools.product(kinds, repeat=many)]
        sound = {show_kind(kind) for kind in kinds if not has_calls_in_calls(kind)}
        found = set()
        for many in range(6):
            for each in itertools.product(pieces, repeat=many):
                told = "".join(each)
                try:
                    kind = read_kind(told)
                except NoText:
                    self.assertNotIn(told, sound)
                    continue
                self.assertEqual(show_kind(kind), told)
                found.add(told)
        self.assertTrue({"num", "[[a]]", "(-> num)", "(a -> num)", "[num]", "aa", "anum"} <= found)


class Editions(Case):
    def test_what_is_written_is_read_back(self):
        for edition, writing in EDITIONS + [(library(), LIBRARY)]:
            with self.subTest(writing[:100]):
                told = read_edition(writing)
                self.assertEqual(told, edition)
                self.assertEqual((told.kinds(), told.doors(), told.number),
                                 (edition.kinds(), edition.doors(), edition.number))
                self.assertEqual(show_edition(told), writing)
                self.assertEqual(read_edition(text=writing), edition)

    def test_editions_that_are_made(self):
        for seed in range(200):
            for edition in made_couple(seed):
                with self.subTest(seed=seed):
                    self.assertEqual(read_edition(show_edition(edition)), edition)

    def test_numbers(self):
        for told in NO_EDITIONS:
            with self.subTest(told):
                self.refused(read_edition, told)
        figures = "9" * 60
        self.assertEqual(read_edition(f"{figures}.0.{figures}").number, (10 ** 60 - 1, 0, 10 ** 60 - 1))
        for told in ("9" * 61 + ".0.0", "0." + "1" * 61 + ".0", "0.0.1" + "0" * 60, "1" * 5000 + ".0.0"):
            self.refused(read_edition, told)

    def test_any_other_text(self):
        ahead = "1.0.0; hidden h; "
        self.assertEqual(len(read_edition(ahead + "hidden a").kinds()), 2)
        for told in NO_MEMBERS:
            with self.subTest(told):
                self.refused(read_edition, ahead + told)
                self.refused(read_edition, ahead + told + "; hidden b")

    def test_what_stands_between(self):
        self.assertEqual(len(read_edition("1.0.0; record a(); door d() -> a").kinds()), 1)
        for told in ("1.0.0 ; record a()", "1.0.0;record a()", "1.0.0;  record a()", "1.0.0, record a()",
                     "1.0.0 record a()", "record a(); 1.0.0", "1.0.0; record a();", "1.0.0; record a(); ",
                     "1.0.0;; record a()", "; record a()", "1.0.0; record a() ; door d() -> a", "1.0.0; 1.0.0",
                     "1.0.0; record a()\n", "1.0.0;\nrecord a()", "1.0.0; record a() record b()"):
            with self.subTest(told):
                self.refused(read_edition, told)

    def test_doors_stand_behind_all_kinds(self):
        for told in ("1.0.0; door d() -> num; record a()", "1.0.0; record a(); door d() -> a; hidden b",
                     "1.0.0; door d() -> num; choice c(); door e() -> num"):
            with self.subTest(told):
                self.refused(read_edition, told)

    def test_faulty_editions(self):
        for told in FAULTY:
            with self.subTest(told):
                self.refused(read_edition, "1.0.0; hidden h; " + told)

    def test_what_is_just_not_faulty(self):
        for told in ("record a(); door a() -> a", "record a(f [[[num]]])", "door d(p (-> [[num]])) -> num",
                     "door d(p (num, num, num -> num)) -> num", "record a(p num, q num, r num, s num, t num, u num)",
                     "choice c(p, q, r, s, t, u, ..)", "hidden a under b; hidden b",
                     "record b(f num, g text) under a; record a(f num)"):
            with self.subTest(told):
                self.assertEqual(show_edition(read_edition("1.0.0; " + told)), "1.0.0; " + told)

    def test_too_many(self):
        self.assertEqual(len(read_edition(WIDE)), 16)
        self.refused(read_edition, WIDE + "; door q() -> num")
        thirteen = "1.0.0; " + "; ".join([f"hidden {name}" for name in LETTERS[:13]])
        self.refused(read_edition, thirteen)
        self.assertEqual(len(read_edition(thirteen[:-len("; hidden m")]).kinds()), 12)

    def test_texts_with_a_piece_changed(self):
        """Whatever is read is written as that very text."""
        rng = random.Random(25)
        pieces = [" ", ",", ", ", ";", "; ", "(", ")", "[", "]", "?", "..", ".", "->", " -> ", "num", "a", "under ",
                  "0"]
        found = 0
        writings = [writing for _, writing in EDITIONS if len(writing) < 200] + [LIBRARY]
        for _ in range(6000):
            told = rng.choice(writings)
            at = rng.randint(0, len(told))
            told = told[:at] + rng.choice(pieces + [""]) + told[at + rng.choice([0, 0, 1, 2]):]
            try:
                edition = read_edition(told)
            except NoText as refusal:
                self.assertEqual(refusal.what, told)
                continue
            found += 1
            self.assertEqual(show_edition(edition), told)
        self.assertTrue(100 < found < 3000, found)

    def test_each_part_of_a_writing_is_missed(self):
        told = "1.0.0; hidden h; record a(f? [num], g a) under h; choice c(x, y num, ..); door d(p num) -> num"
        self.assertEqual(show_edition(read_edition(told)), told)
        for at in range(len(told)):
            less = told[:at] + told[at + 1:]
            try:
                self.assertEqual(show_edition(read_edition(less)), less)
            except NoText as refusal:
                self.assertEqual(refusal.what, less)

    def test_each_reading_is_a_new_one(self):
        one, other = read_edition(LIBRARY), read_edition(LIBRARY)
        self.assertIsNot(one, other)
        one.kinds().clear()
        one.number = (9, 9, 9)
        self.assertEqual(other, library())
        self.refused(read_edition, LIBRARY + ";")
        self.assertEqual(read_edition(LIBRARY), library())

    def test_kinds_are_read_alike_in_editions(self):
        ahead = [("a", record()), ("b", hidden()), ("c", hidden()), ("abcdefgh", hidden()), ("number", record()),
                 ("texts", hidden()), ("nu", hidden()), ("under", hidden()), ("dog", record())]
        for kind, writing in KINDS:
            edition = "1.0.0; " + "; ".join(f"{each[0]} {name}" + ("()" if each[0] == "record" else "")
                                            for name, each in ahead) + f"; door d(p {writing}) -> {writing}"
            with self.subTest(writing):
                if depth(kind) > 4:
                    self.refused(read_edition, edition)
                else:
                    self.assertEqual(read_edition(edition), Edition(ahead, [("d", (("p", kind, True),), kind)]))
        self.assertEqual(depth(rows_deep(5)), 5)


if __name__ == "__main__":
    unittest.main()
