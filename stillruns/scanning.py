"""A reader's place in a text."""

from stillruns.errors import NoText
from stillruns.names import LETTERS


class Scanner:
    """A text that is read from its start; refused with NoText, of the whole text, where something else is due."""

    def __init__(self, text):
        self.text = text
        self.at = 0

    def takes(self, sign):
        """Whether this sign stands next: it is passed by then."""
        if not self.text.startswith(sign, self.at):
            return False
        self.at += len(sign)
        return True

    def needs(self, sign):
        """Pass by a sign that must stand next."""
        if not self.takes(sign):
            raise NoText(self.text)

    def ends(self):
        """Refuse what is left of the text."""
        if self.at < len(self.text):
            raise NoText(self.text)

    def run_of(self, signs):
        """All that stands next of these signs."""
        start = self.at
        while self.at < len(self.text) and self.text[self.at] in signs:
            self.at += 1
        return self.text[start:self.at]

    def letters(self):
        """The small letters that stand next."""
        return self.run_of(LETTERS)
