"""[27], [28]: the desk, its rows, its refusals and its book."""

import unittest

from stillruns.breaks import break_size, least_break, next_number, pairs
from stillruns.bridges import lost_doors
from stillruns.desk import Desk
from stillruns.errors import NoName, NoRow, NoText, StillError, TooGreat
from stillruns.least import least, sizes
from stillruns.readings import read_edition
from stillruns.terms import size
from stillruns.texts import show_edition, show_kind, show_term
from tests.examples import records_in_a_row
from tests.making import made_couple
from tests.writings import EDITIONS, LIBRARY, WIDE

ONE = "1.0.0; record a(n num); door f(p a) -> num; door g() -> a; door h() -> [a]"
TWO = "1.0.0; record a(n num); door f(p a, q num) -> num; door g() -> a"
LESS = "4.5.6; record a(n num, m? num)"
WORDS = ["edition one " + ONE, "drop one", "names", "text one", "break one two", "number one two", "pairs one two",
         "lost one two", "least one num"]


def desk_with(**editions):
    desk = Desk()
    for name, told in editions.items():
        desk.say(f"edition {name} {told}")
    return desk


def great_edition():
    """A record whose least size is above two hundred, as a text."""
    rows = [f"record {name}({', '.join(f'{field} {kind[1]}' for field, kind, _ in declaration[1])})"
            for name, declaration in records_in_a_row(5)]
    return "; ".join(["1.0.0"] + rows)


class Case(unittest.TestCase):
    def refused(self, desk, told, refusal, what):
        """That a row is refused, changes nothing, and stands in the book."""
        before, many, names = desk.book(), len(desk), desk.say("names")
        with self.assertRaises(StillError) as caught:
            desk.say(told)
        self.assertIs(type(caught.exception), refusal, told)
        self.assertEqual(caught.exception.what, what)
        self.assertIs(desk.busy(), False)
        self.assertEqual(desk.book(), before + [("names", names, None), (told, None, refusal.__name__)])
        self.assertEqual(len(desk), many)
        self.assertEqual(desk.say("names"), names)


class Kept(Case):
    """edition, drop, names, text and len."""

    def test_a_desk_that_keeps_none(self):
        desk = Desk()
        self.assertEqual(len(desk), 0)
        self.assertEqual(desk.book(), [])
        self.assertIs(desk.busy(), False)
        self.assertEqual(desk.say("names"), "none")
        self.assertEqual(desk.book(), [("names", "none", None)])

    def test_an_edition_is_kept(self):
        desk = Desk()
        self.assertEqual(desk.say("edition one " + ONE), "ok")
        self.assertEqual(len(desk), 1)
        self.assertEqual(desk.say("names"), "one")
        self.assertEqual(desk.say("text one"), ONE)

    def test_each_writing_is_kept(self):
        for edition, writing in EDITIONS + [(read_edition(LIBRARY), LIBRARY)]:
            desk = desk_with(one=writing)
            with self.subTest(writing[:100]):
                self.assertEqual(desk.say("text one"), writing)
                self.assertEqual(show_edition(edition), writing)

    def test_names_in_the_order_of_letters(self):
        desk = Desk()
        for name in ("two", "a", "under", "b", "abcdefgh", "none", "ab", "edition", "names", "z"):
            self.assertEqual(desk.say(f"edition {name} 1.0.0"), "ok")
        self.assertEqual(desk.say("names"), "a ab abcdefgh b edition names none two under z")
        self.assertEqual(len(desk), 10)

    def test_in_the_place_of_what_stood_by_it(self):
        desk = desk_with(one=ONE, two=TWO)
        self.assertEqual(desk.say("edition one " + LESS), "ok")
        self.assertEqual(desk.say("text one"), LESS)
        self.assertEqual(desk.say("text two"), TWO)
        self.assertEqual(len(desk), 2)
        self.assertEqual(desk.say("edition one " + LESS), "ok")
        self.assertEqual(desk.say("names"), "one two")

    def test_drop(self):
        desk = desk_with(one=ONE, two=TWO)
        self.assertEqual(desk.say("drop one"), "ok")
        self.assertEqual(desk.say("names"), "two")
        self.assertEqual(len(desk), 1)
        self.refused(desk, "drop one", NoName, "one")
        self.refused(desk, "text one", NoName, "one")
        self.assertEqual(desk.say("drop two"), "ok")
        self.assertEqual(desk.say("names"), "none")
        self.assertEqual(len(desk), 0)
        self.assertEqual(desk.say("edition one " + TWO), "ok")
        self.assertEqual(desk.say("text one"), TWO)

    def test_the_greatest_edition(self):
        desk = desk_with(wide=WIDE)
        self.assertEqual(desk.say("text wide"), WIDE)
        self.assertEqual(desk.say("break wide wide"), "none")


class Asked(Case):
    """break, number, pairs, lost and least."""

    def setUp(self):
        self.desk = desk_with(one=ONE, two=TWO, less=LESS, none="1.0.0")

    def test_break(self):
        self.assertEqual(self.desk.say("break one two"), "1 h()")
        self.desk.say("edition one 1.0.0; record a(n num); door f(p a) -> num; door g() -> a")
        self.assertEqual(self.desk.say("break one two"), "2 f(p: g())")
        self.assertEqual(self.desk.say("break one one"), "none")
        self.assertEqual(self.desk.say("break none one"), "none")
        self.assertEqual(self.desk.say("break less none")[:9], "2 new a(n")

    def test_number(self):
        self.assertEqual(self.desk.say("number one two"), "2.0.0")
        self.assertEqual(self.desk.say("number one one"), "1.0.1")
        self.assertEqual(self.desk.say("number none one"), "1.1.0")
        self.assertEqual(self.desk.say("number less one"), "5.0.0")
        self.assertEqual(self.desk.say("number less less"), "4.5.7")
        great = "9" * 60
        self.desk.say(f"edition less {great}.{great}.{great}")
        self.assertEqual(self.desk.say("number less none"), f"{great}.{great}.1" + "0" * 60)
        self.assertEqual(self.desk.say("number none less"), "1.0.1")

    def test_pairs(self):
        self.assertEqual(self.desk.say("pairs one two"), "3")
        self.assertEqual(self.desk.say("pairs one one"), "4")
        self.assertEqual(self.desk.say("pairs none none"), "2")
        self.assertEqual(self.desk.say("pairs one none"), "2")

    def test_lost(self):
        self.assertEqual(self.desk.say("lost one two"), "h")
        self.assertEqual(self.desk.say("lost two one"), "none")
        self.assertEqual(self.desk.say("lost one less"), "f g h")
        self.assertEqual(self.desk.say("lost one one"), "none")
        self.desk.say("edition one 1.0.0; door z() -> num; door b() -> num; door g() -> num; door ab() -> num")
        self.assertEqual(self.desk.say("lost one two"), "ab b z")

    def test_least(self):
        self.assertEqual(self.desk.say("least one a"), "1 g()")
        self.assertEqual(self.desk.say("least one [a]"), "1 h()")
        self.assertEqual(self.desk.say("least two [a]"), "none")
        self.assertEqual(self.desk.say("least two nobody"), "none")
        self.assertEqual(self.desk.say("least less [num]")[:2], "3 ")
        self.assertEqual(self.desk.say("least less a")[:10], "2 new a(n:")
        self.assertEqual(self.desk.say("least none num")[:2], "1 ")
        self.assertEqual(self.desk.say("least none text")[:3], "1 '")
        self.assertEqual(self.desk.say("least one (num, a -> [text])"), "none")
        self.assertEqual(self.desk.say("least one [[[[num]]]]"), "none")

    def test_the_same_name_twice_in_a_row(self):
        for told, wanted in (("break one one", "none"), ("number two two", "1.0.1"), ("pairs less less", "4"),
                             ("lost one one", "none")):
            self.assertEqual(self.desk.say(told), wanted)

    def test_each_answer_is_that_of_the_stages(self):
        for seed in range(60):
            elder, newer = made_couple(seed)
            desk = desk_with(old=show_edition(elder), new=show_edition(newer))
            with self.subTest(seed=seed):
                term = least_break(elder, newer)
                wanted = "none" if term is None else f"{break_size(elder, newer)} {show_term(term)}"
                self.assertEqual(desk.say("break old new"), wanted)
                self.assertEqual(desk.say("number old new"), ".".join(str(n) for n in next_number(elder, newer)))
                self.assertEqual(desk.say("pairs old new"), str(len(pairs(elder, newer))))
                self.assertEqual(desk.say("lost old new"), " ".join(lost_doors(elder, newer)) or "none")
                for kind, many in sizes(elder):
                    term = least(elder, kind)
                    self.assertEqual(size(term), many)
                    self.assertEqual(desk.say(f"least old {show_kind(kind)}"), f"{many} {show_term(term)}")


class Refused(Case):
    def setUp(self):
        self.desk = desk_with(one=ONE, two=TWO)

    def test_no_row(self):
        for told in ("", " ", "name", "Names", "NAMES", "names ", " names", "names one", "names  ", "edition",
                     "edition ", "edition one", "drop", "drop ", "drop one ", "drop one two", "drop  one", " drop one",
                     "text", "text one two", "text one ", "text  one", "break", "break one", "break one ",
                     "break one two ", "break one two three", "break  one two", "break one  two", "number one",
                     "number one two two", "pairs", "pairs one", "pairs one two 3", "lost one", "lost one two ",
                     "lost two", "least", "least one", "least ", "ok", "none", "one", "show one", "text\none",
                     "break one,two", "break one; two", "size one two", "relation one two", "help", "textone",
                     "text,one", "names;"):
            with self.subTest(told):
                self.refused(self.desk, told, NoRow, told)

    def test_what_is_no_name_is_no_row(self):
        for name in ("num", "text", "One", "ONE", "abcdefghi", "a1", "1", "a-b", "", "one.", "_", "'one'"):
            for told in (f"edition {name} {ONE}", f"drop {name}", f"text {name}", f"break {name} two",
                         f"break one {name}", f"number {name} {name}", f"pairs one {name}", f"lost {name} two",
                         f"least {name} num"):
                with self.subTest(told):
                    self.refused(self.desk, told, NoRow, told)

    def test_no_name(self):
        for told, what in (("drop three", "three"), ("text three", "three"), ("break three two", "three"),
                           ("break one three", "three"), ("break three four", "three"), ("break four three", "four"),
                           ("number one three", "three"), ("number x x", "x"), ("pairs three one", "three"),
                           ("pairs z y", "z"), ("lost two three", "three"), ("lost y z", "y"),
                           ("least three num", "three"), ("text names", "names"), ("drop none", "none")):
            with self.subTest(told):
                self.refused(self.desk, told, NoName, what)
        empty = Desk()
        for told in WORDS[1:2] + WORDS[3:]:
            self.refused(empty, told, NoName, "one")

    def test_no_text(self):
        for text in ("", " ", " " + ONE, ONE + " ", ONE + ";", "1.0", "record a()", "1.0.0; record a(f b)",
                     "1.0.0;  record a()", "1.0.0; record a(); record a()", "1.0.0; door d() -> num; record a()",
                     "none", "one", "-1.0.0", "01.0.0"):
            with self.subTest(text):
                self.refused(self.desk, f"edition one {text}", NoText, text)
                self.refused(self.desk, f"edition three {text}", NoText, text)
        for text in ("", " ", " num", "num ", "num text", "[num", "[[[[[num]]]]]", "(-> (-> num))",
                     "(a, a, a, a -> a)", "NUM", "abcdefghi", "1", "(num -> )"):
            with self.subTest(text):
                self.refused(self.desk, f"least one {text}", NoText, text)

    def test_the_first_one_by_the_order(self):
        self.refused(self.desk, "least three [num", NoName, "three")
        self.refused(self.desk, "least num [num", NoRow, "least num [num")
        self.refused(self.desk, "break three Two", NoRow, "break three Two")
        self.refused(self.desk, "break three two one", NoRow, "break three two one")
        self.refused(self.desk, "edition num 1.0", NoRow, "edition num 1.0")
        self.refused(self.desk, "break one num", NoRow, "break one num")
        self.desk.say("edition great " + great_edition())
        self.refused(self.desk, "least great [e", NoText, "[e")
        self.refused(self.desk, "least grea e", NoName, "grea")

    def test_else_as_the_stages_refuse(self):
        desk = desk_with(great=great_edition(), none="1.0.0",
                         other="; ".join([great_edition(), "door y(p e) -> num"]),
                         less="; ".join([great_edition(), "door y(p e, q num) -> num"]))
        self.refused(desk, "least great e", TooGreat, 1555)
        self.assertEqual(desk.say("least great c").split(" ")[0], "43")
        self.refused(desk, "break other less", TooGreat, 1556)
        self.assertEqual(desk.say("number other less"), "2.0.0")
        self.assertEqual(desk.say("break other none"), "1 new a()")

    def test_what_is_refused_changes_no_edition(self):
        for told in ("edition one 1.0.0; record a(f b)", "edition two ", "drop three", "drop one ",
                     "edition num 1.0.0"):
            with self.assertRaises(StillError):
                self.desk.say(told)
            self.assertEqual((self.desk.say("text one"), self.desk.say("text two")), (ONE, TWO))
            self.assertEqual(len(self.desk), 2)

    def test_each_word_with_names_that_are_kept(self):
        for told in WORDS[:1] + WORDS[2:] + WORDS[1:2]:
            self.assertIsInstance(self.desk.say(told), str)
        self.assertEqual([refusal for _, _, refusal in self.desk.book()], [None] * 11)


class Book(Case):
    def test_a_tuple_for_each_row_that_was_told(self):
        desk = Desk()
        for told in ("names", "edition one 1.0.0", "text one", "text two", "edition two 1", "bye", "number one one"):
            try:
                desk.say(told)
            except StillError:
                pass
        self.assertEqual(desk.book(), [
            ("names", "none", None),
            ("edition one 1.0.0", "ok", None),
            ("text one", "1.0.0", None),
            ("text two", None, "NoName"),
            ("edition two 1", None, "NoText"),
            ("bye", None, "NoRow"),
            ("number one one", "1.0.1", None)])

    def test_the_same_row_again_is_one_tuple_more(self):
        desk = Desk()
        for many in range(1, 4):
            desk.say("names")
            self.assertEqual(desk.book(), [("names", "none", None)] * many)
            self.assertIs(desk.busy(), False)

    def test_too_great_stands_in_it(self):
        desk = desk_with(great=great_edition())
        self.refused(desk, "least great e", TooGreat, 1555)
        self.assertIn(("least great e", None, "TooGreat"), desk.book())

    def test_each_told_book_is_a_new_one(self):
        desk = desk_with(one=ONE)
        told = desk.book()
        wanted = list(told)
        told.append("x")
        self.assertEqual(desk.book(), wanted)
        desk.book().clear()
        self.assertEqual(desk.book(), wanted)
        desk.say("names")
        self.assertEqual(told, wanted + ["x"])
        self.assertEqual(desk.book(), wanted + [("names", "one", None)])

    def test_the_desk_is_busy_while_a_row_is_told(self):
        seen = []

        class Watched(str):
            def split(self, *told):
                seen.append((desk.busy(), desk.book()))
                return str(self).split(*told)

        desk = Desk()
        desk.say(Watched("names"))
        with self.assertRaises(NoRow):
            desk.say(Watched("nothing"))
        self.assertEqual([busy for busy, _ in seen], [True, True])
        self.assertEqual([len(book) for _, book in seen], [0, 1])
        self.assertIs(desk.busy(), False)
        self.assertEqual(len(desk.book()), 2)


class Desks(Case):
    def test_two_know_nothing_of_each_other(self):
        one, other = Desk(), Desk()
        one.say("edition a " + ONE)
        self.assertEqual((len(one), len(other)), (1, 0))
        self.assertEqual(other.book(), [])
        self.refused(other, "text a", NoName, "a")
        other.say("edition a " + TWO)
        self.assertEqual((one.say("text a"), other.say("text a")), (ONE, TWO))
        other.say("drop a")
        self.assertEqual(one.say("names"), "a")
        self.assertEqual(len(Desk().book()), 0)

    def test_asking_again_tells_the_same(self):
        desk = desk_with(one=ONE, two=TWO)
        asked = [told for told in WORDS if not told.startswith(("edition", "drop"))]
        first = [desk.say(told) for told in asked]
        with self.assertRaises(NoRow):
            desk.say("edition")
        again = [desk.say(told) for told in reversed(asked)]
        self.assertEqual(again[::-1], first)
        anew = desk_with(two=TWO, one=ONE)
        self.assertEqual([anew.say(told) for told in asked], first)

    def test_calls_by_names(self):
        desk = Desk()
        self.assertEqual(desk.say(row="edition one 1.0.0"), "ok")
        with self.assertRaises(NoRow):
            desk.say(row="edition")
        self.assertEqual(desk.say(row="names"), "one")

    def test_its_methods_stand_in_the_class_itself(self):
        for name in ("say", "book", "busy", "__len__"):
            self.assertIn(name, vars(Desk))


if __name__ == "__main__":
    unittest.main()
