"""Kinds, editions and terms beside their writings, that the tests share."""

from stillruns.editions import Edition
from tests.examples import NUM, TEXT, calls, choice, hidden, of, record, row, rows_deep

KINDS = [
    (NUM, "num"),
    (TEXT, "text"),
    (of("a"), "a"),
    (of("abcdefgh"), "abcdefgh"),
    (of("number"), "number"),
    (of("texts"), "texts"),
    (of("nu"), "nu"),
    (of("under"), "under"),
    (row(NUM), "[num]"),
    (row(row(of("dog"))), "[[dog]]"),
    (rows_deep(5), "[[[[num]]]]"),
    (calls([], NUM), "(-> num)"),
    (calls([], of("dog")), "(-> dog)"),
    (calls([TEXT], NUM), "(text -> num)"),
    (calls([NUM, of("dog")], row(TEXT)), "(num, dog -> [text])"),
    (calls([of("a"), row(of("b")), TEXT], of("c")), "(a, [b], text -> c)"),
    (row(calls([], NUM)), "[(-> num)]"),
    (row(row(row(calls([NUM], NUM)))), "[[[(num -> num)]]]"),
    (calls([rows_deep(4), NUM, rows_deep(4)], rows_deep(4)), "([[[num]]], num, [[[num]]] -> [[[num]]])"),
    (calls([], rows_deep(4)), "(-> [[[num]]])"),
    (row(calls([rows_deep(3)], NUM)), "[([[num]] -> num)]"),
]

FOUR_DEEP = calls([rows_deep(3), row(of("b")), of("a")], rows_deep(3))
LETTERS = "abcdefghijklmnop"


def wide_edition():
    """An edition of twelve kinds and sixteen doors."""
    kinds = [(name, record(*[(field, NUM, True) for field in "uvwxyz"])) for name in LETTERS[:12]]
    return Edition(kinds, [(door, (), of("l")) for door in LETTERS])


WIDE = "; ".join(["1.0.0"]
                 + [f"record {name}(u num, v num, w num, x num, y num, z num)" for name in LETTERS[:12]]
                 + [f"door {name}() -> l" for name in LETTERS])
GREAT = 10 ** 60 - 1

EDITIONS = [
    (Edition([], []), "1.0.0"),
    (Edition([], [], number=(0, 0, 0)), "0.0.0"),
    (Edition([], [], number=(10, 20, 305)), "10.20.305"),
    (Edition([], [], number=(GREAT, GREAT, GREAT)), ".".join(["9" * 60] * 3)),
    (Edition([], [], number=(10 ** 59, 0, 7)), "1" + "0" * 59 + ".0.7"),
    (Edition([("a", record())], []), "1.0.0; record a()"),
    (Edition([("a", record(("f", NUM, True)))], []), "1.0.0; record a(f num)"),
    (Edition([("a", record(("f", NUM, False)))], []), "1.0.0; record a(f? num)"),
    (Edition([("a", record(("g", TEXT, False), ("f", row(of("a")), True), ("h", FOUR_DEEP, False))),
              ("b", hidden())], []),
     "1.0.0; record a(g? text, f [a], h? ([[num]], [b], a -> [[num]])); hidden b"),
    (Edition([("h", hidden()), ("i", hidden("h")), ("j", hidden("h", "i")), ("a", record(above=["j"])),
              ("b", record(("f", NUM, True), above=["a", "h", "i"]))], []),
     "1.0.0; hidden h; hidden i under h; hidden j under h, i; record a() under j; record b(f num) under a, h, i"),
    (Edition([("a", record(above=["b"])), ("b", hidden())], []), "1.0.0; record a() under b; hidden b"),
    (Edition([("c", choice())], []), "1.0.0; choice c()"),
    (Edition([("c", choice(shut=False))], []), "1.0.0; choice c(..)"),
    (Edition([("c", choice(("x", None)))], []), "1.0.0; choice c(x)"),
    (Edition([("c", choice(("x", None), shut=False))], []), "1.0.0; choice c(x, ..)"),
    (Edition([("c", choice(("y", NUM), ("x", None), ("z", row(of("c")))))], []), "1.0.0; choice c(y num, x, z [c])"),
    (Edition([("c", choice(("x", None), ("y", of("c")), shut=False))], []), "1.0.0; choice c(x, y c, ..)"),
    (Edition([], [("f", (), NUM)]), "1.0.0; door f() -> num"),
    (Edition([], [("f", (("p", NUM, True),), row(TEXT))]), "1.0.0; door f(p num) -> [text]"),
    (Edition([], [("f", (("q", calls([], NUM), False), ("p", TEXT, True)), calls([NUM], TEXT))]),
     "1.0.0; door f(q? (-> num), p text) -> (num -> text)"),
    (Edition([("a", record())], [("g", (), of("a")), ("f", (("p", of("a"), False),), NUM)], number=(2, 0, 1)),
     "2.0.1; record a(); door g() -> a; door f(p? a) -> num"),
    (Edition([("door", record()), ("record", hidden()), ("under", choice(("under", None))), ("choice", hidden()),
              ("hidden", record(("door", of("under"), True), above=["record", "choice"]))],
             [("under", (("under", of("under"), True),), of("under")), ("door", (), NUM), ("hidden", (), of("door"))]),
     "1.0.0; record door(); hidden record; choice under(under); hidden choice;"
     " record hidden(door under) under record, choice; door under(under under) -> under; door door() -> num;"
     " door hidden() -> door"),
    (wide_edition(), WIDE),
]

# Of the edition that `examples.library` makes.
LIBRARY = (
    "1.0.0; hidden thing; hidden live under thing; record animal(age? num, name text, owner thing) under live; "
    "record dog(tail num, age? num, name text, owner animal) under animal; record lone(); "
    "choice shape(dot, ring num, pair animal); choice mood(calm, loud num, ..); choice none(); "
    "door zero() -> num; door add(b num, a num, c? num) -> num; door some() -> thing; door adog() -> dog; "
    "door dogs() -> [dog]; door shape() -> shape; door mood() -> mood; door none() -> none; "
    "door keep(what thing) -> [[thing]]; door maker() -> (animal, text -> shape); door plain() -> (-> num); "
    "door teach(who [animal], how (dog, num -> text), most? num) -> [text]; "
    "door later(then? (-> thing), who animal) -> num; door three(go (num, text, mood -> num)) -> num")

SOME = ("call", "some", ())
TERMS = [
    (("num", 0), "0"),
    (("num", 7), "7"),
    (("num", -1), "-1"),
    (("num", GREAT), "9" * 60),
    (("num", -GREAT), "-" + "9" * 60),
    (("text", ""), "''"),
    (("text", "abcdefghijkl"), "'abcdefghijkl'"),
    (SOME, "some()"),
    (("call", "f", (("p", ("num", -3)),)), "f(p: -3)"),
    (("call", "f", (("p", ("num", 1)), ("q", ("text", "")), ("r", SOME))), "f(p: 1, q: '', r: some())"),
    (("call", "f", (("z", SOME), ("a", SOME), ("a", SOME))), "f(z: some(), a: some(), a: some())"),
    (("make", "lone", ()), "new lone()"),
    (("make", "dog", (("age", ("num", 3)), ("of", ("make", "lone", ())))), "new dog(age: 3, of: new lone())"),
    (("get", "age", ("make", "dog", ())), "new dog().age"),
    (("get", "a", ("get", "b", SOME)), "some().b.a"),
    (("case", "mood", "calm", None), "mood!calm"),
    (("case", "mood", "loud", ("num", 2)), "mood!loud(2)"),
    (("case", "mood", "loud", ("case", "mood", "calm", None)), "mood!loud(mood!calm)"),
    (("as", "loud", SOME), "(some() as loud)"),
    (("as", "a", ("as", "b", ("text", "c"))), "(('c' as b) as a)"),
    (("get", "f", ("as", "a", SOME)), "(some() as a).f"),
    (("look", (), SOME), "look(some())"),
    (("look", ("calm",), SOME), "look(some(): calm)"),
    (("look", ("calm", "loud", "odd"), SOME), "look(some(): calm, loud, odd)"),
    (("one", ("one", SOME)), "one(one(some()))"),
    (("answer", 0, ("num", 1)), "(0 -> 1)"),
    (("answer", 3, ("answer", 12, ("text", "a"))), "(3 -> (12 -> 'a'))"),
    (("ask", SOME, ()), "ask(some())"),
    (("ask", SOME, (("num", 1),)), "ask(some(): 1)"),
    (("ask", ("answer", 1, SOME), (("num", 1), ("text", "b"), ("ask", SOME, ()))),
     "ask((1 -> some()): 1, 'b', ask(some()))"),
    (("handed", "teach", "how", 0, ()), "teach?how.0()"),
    (("handed", "teach", "how", 2, (("most", ("num", 1)), ("who", SOME))), "teach?how.2(most: 1, who: some())"),
    (("handed", "f", "p", -1, ()), "f?p.-1()"),
    (("get", "age", ("handed", "f", "p", 10, (("q", ("one", SOME)),))), "f?p.10(q: one(some())).age"),
]
