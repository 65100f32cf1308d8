"""Kinds, declarations and one whole edition that the tests share."""

from stillruns.editions import Edition

NUM = ("num",)
TEXT = ("text",)


def of(name):
    return ("of", name)


def row(kind):
    return ("row", kind)


def calls(kinds, answer):
    return ("calls", tuple(kinds), answer)


def record(*fields, above=()):
    return ("record", tuple(fields), tuple(above))


def choice(*cases, shut=True):
    return ("choice", tuple(cases), shut)


def hidden(*above):
    return ("hidden", tuple(above))


def rows_deep(levels):
    """A kind of so many levels."""
    kind = NUM
    for _ in range(levels - 1):
        kind = row(kind)
    return kind


TEACH = calls([of("dog"), NUM], TEXT)


def library_kinds():
    return [
        ("thing", hidden()),
        ("live", hidden("thing")),
        ("animal", record(("age", NUM, False), ("name", TEXT, True), ("owner", of("thing"), True), above=["live"])),
        ("dog", record(("tail", NUM, True), ("age", NUM, False), ("name", TEXT, True), ("owner", of("animal"), True),
                       above=["animal"])),
        ("lone", record()),
        ("shape", choice(("dot", None), ("ring", NUM), ("pair", of("animal")))),
        ("mood", choice(("calm", None), ("loud", NUM), shut=False)),
        ("none", choice()),
    ]


def library_doors():
    return [
        ("zero", (), NUM),
        ("add", (("b", NUM, True), ("a", NUM, True), ("c", NUM, False)), NUM),
        ("some", (), of("thing")),
        ("adog", (), of("dog")),
        ("dogs", (), row(of("dog"))),
        ("shape", (), of("shape")),
        ("mood", (), of("mood")),
        ("none", (), of("none")),
        ("keep", (("what", of("thing"), True),), row(row(of("thing")))),
        ("maker", (), calls([of("animal"), TEXT], of("shape"))),
        ("plain", (), calls([], NUM)),
        ("teach", (("who", row(of("animal")), True), ("how", TEACH, True), ("most", NUM, False)), row(TEXT)),
        ("later", (("then", calls([], of("thing")), False), ("who", of("animal"), True)), NUM),
        ("three", (("go", calls([NUM, TEXT, of("mood")], NUM), True),), NUM),
    ]


def library():
    return Edition(library_kinds(), library_doors())


def num(n=1):
    return ("num", n)


def text(t="a"):
    return ("text", t)


def call(door, /, **arguments):
    """A call with its arguments in the order of letters."""
    return ("call", door, tuple(sorted(arguments.items())))


def make(record_name, /, **arguments):
    return ("make", record_name, tuple(sorted(arguments.items())))


SOME = ("call", "some", ())
ADOG = ("call", "adog", ())
ANIMAL = ("make", "animal", (("name", ("text", "rex")), ("owner", SOME)))


def nested(levels, bottom):
    """A term of so many levels: answers, one in another, and the bottom."""
    term = bottom
    for _ in range(levels - 1):
        term = ("answer", 0, term)
    return term


def record_of_size(wanted):
    """Declarations of which the last one is of a record whose least term has just this size, and its name."""
    sizes = [wanted]
    while sizes[-1] > 2:
        sizes.append((sizes[-1] - 1) // 2)
    kinds = []
    for name, each in zip("abcdefghijkl", reversed(sizes)):
        fields = [("n", NUM, True)] if each % 2 == 0 else []
        if kinds:
            fields += [("x", of(kinds[-1][0]), True), ("y", of(kinds[-1][0]), True)]
        kinds.append((name, record(*fields)))
    return kinds, kinds[-1][0]


def records_in_a_row(many, fields=6):
    """Records, each behind the first with so many needed fields of the one ahead; the first one has none."""
    names = "abcdefghijkl"[:many]
    kinds = [(names[0], record())]
    for ahead, name in zip(names, names[1:]):
        kinds.append((name, record(*[(field, of(ahead), True) for field in "pqrstu"[:fields]])))
    return kinds


def row_size(place, fields=6):
    """The least size of the record at a place of such a row."""
    size = 1
    for _ in range(place):
        size = 1 + fields * size
    return size
