"""Editions of a library: its kinds, its doors and its number."""

from stillruns.checks import check_doors, check_kinds, check_lengths
from stillruns.fitting import fits_by, table_above

FIRST = (1, 0, 0)


class Edition:
    """An edition: declared kinds, doors that take and give values of kinds, and a number."""

    def __init__(self, kinds, doors, *, number=FIRST):
        check_lengths(kinds, doors)
        check_kinds(kinds)
        check_doors(kinds, doors)
        self.number = tuple(number)
        self._kinds = list(kinds)
        self._doors = list(doors)
        self._declared = {name: declaration for name, declaration in kinds}
        self._by_name = {door[0]: door for door in doors}
        self._above = table_above(self._declared)

    def kinds(self):
        """The declarations with their names, as they were handed in."""
        return list(self._kinds)

    def doors(self):
        """The doors, as they were handed in."""
        return list(self._doors)

    def declaration(self, name):
        """The declaration of a name, or None."""
        return self._declared.get(name)

    def door(self, name):
        """The door of a name, or None."""
        return self._by_name.get(name)

    def kind_fits(self, given, wanted):
        """Whether a given kind fits a wanted one here."""
        return fits_by(self._above, given, wanted)

    def __len__(self):
        return len(self._doors)

    def __eq__(self, other):
        return (isinstance(other, Edition) and self._kinds == other._kinds
                and self._doors == other._doors and self.number == other.number)

    def __ne__(self, other):
        return not self == other


def fits(edition, given, wanted):
    """Whether a given kind fits a wanted one in an edition."""
    return edition.kind_fits(given, wanted)
