"""The desk: editions that are kept by names, and rows of words that ask about them."""

from stillruns.breaks import least_break, next_number, pairs
from stillruns.bridges import lost_doors
from stillruns.errors import NoName, NoRow, StillError
from stillruns.least import least
from stillruns.names import is_name
from stillruns.readings import read_edition, read_kind
from stillruns.terms import size
from stillruns.texts import show_edition, show_number, show_term

NONE = "none"
DONE = "ok"


def in_a_row(names):
    """Names with blanks between them, or the word for none."""
    return " ".join(names) if names else NONE


def sized(term):
    """The size of a term and its writing, or the word for none."""
    return NONE if term is None else f"{size(term)} {show_term(term)}"


def keep(kept, names, text):
    """Keep the edition that the text writes."""
    kept[names[0]] = read_edition(text)
    return DONE


def drop(kept, names, text):
    """Keep an edition no longer."""
    del kept[names[0]]
    return DONE


def tell_names(kept, names, text):
    """The names of all editions, in the order of letters."""
    return in_a_row(sorted(kept))


def tell_text(kept, names, text):
    """The writing of an edition."""
    return show_edition(kept[names[0]])


def tell_break(kept, names, text):
    """A least break with its size."""
    return sized(least_break(kept[names[0]], kept[names[1]]))


def tell_number(kept, names, text):
    """The next number."""
    return show_number(next_number(kept[names[0]], kept[names[1]]))


def tell_pairs(kept, names, text):
    """How many pairs there are."""
    return str(len(pairs(kept[names[0]], kept[names[1]])))


def tell_lost(kept, names, text):
    """The doors to be bridged."""
    return in_a_row(lost_doors(kept[names[0]], kept[names[1]]))


def tell_least(kept, names, text):
    """A least program, with its size, of the kind that the text writes."""
    return sized(least(kept[names[0]], read_kind(text)))


ACTIONS = {
    "edition": keep,
    "drop": drop,
    "names": tell_names,
    "text": tell_text,
    "break": tell_break,
    "number": tell_number,
    "pairs": tell_pairs,
    "lost": tell_lost,
    "least": tell_least,
}
MANY_NAMES = {
    "edition": 1,
    "drop": 1,
    "names": 0,
    "text": 1,
    "break": 2,
    "number": 2,
    "pairs": 2,
    "lost": 2,
    "least": 1,
}
WITH_TEXT = ("edition", "least")


def words_of(row):
    """The first word of a row, its names and its text, or None; refused with NoRow where it is no row."""
    word, *rest = row.split(" ")
    if word not in ACTIONS:
        raise NoRow(row)
    many = MANY_NAMES[word]
    names, left = rest[:many], rest[many:]
    # A text that is empty has a blank ahead, too: then one empty piece is left.
    if len(names) < many or (len(left) > 0) != (word in WITH_TEXT) or not all([is_name(name) for name in names]):
        raise NoRow(row)
    return word, names, " ".join(left) if left else None


def check_names(kept, word, names):
    """Refuse the first name that stands for nothing; an edition may be kept by any name."""
    if word == "edition":
        return
    for name in names:
        if name not in kept:
            raise NoName(name)


def answered(kept, row):
    """The answer to a row, by the editions that are kept."""
    word, names, text = words_of(row)
    check_names(kept, word, names)
    action = ACTIONS[word]
    return action(kept, names, text)


class Desk:
    """A desk with editions by names, and a book of all rows that it was told."""

    def __init__(self):
        self._kept = {}
        self._rows = []
        self._told = False

    def say(self, row):
        """The answer to a row; refused with NoRow, NoName, NoText, or as the stages refuse."""
        answer = refused = None
        self._told = True
        try:
            answer = answered(self._kept, row)
        except StillError as refusal:
            refused = refusal.class_name
            raise
        finally:
            self._rows.append((row, answer, refused))
            self._told = False
        return answer

    def book(self):
        """A tuple (row, answer, refusal) for each row that was told."""
        return list(self._rows)

    def busy(self):
        """Whether a row is being told."""
        return self._told

    def __len__(self):
        return len(self._kept)
