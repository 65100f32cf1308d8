"""Which texts are names."""

LETTERS = "abcdefghijklmnopqrstuvwxyz"
LONGEST = 8
TAKEN = ("num", "text")


def is_name(text):
    """Whether a text is a name: one to eight small letters, but neither num nor text."""
    if text in TAKEN or not 1 <= len(text) <= LONGEST:
        return False
    return all([sign in LETTERS for sign in text])


def any_twice(names):
    """Whether a name stands twice among the names."""
    return len(set(names)) < len(names)
