"""The refusals: each stands straight under StillError and under no other one."""


class StillError(ValueError):
    """Any refusal; it knows the name of its class."""

    def __init__(self, message="refused"):
        super().__init__(f"{message}")
        self.class_name = self.__class__.__name__


class NoEdition(StillError):
    """No edition is made: the name of the faulty declaration or door, or None of lists that are too long."""

    def __init__(self, what):
        super().__init__(f"no edition: {what}")
        self.what = what


class TooGreat(StillError):
    """The least term is greater than the limit: its size."""

    def __init__(self, what):
        super().__init__(f"too great: {what}")
        self.what = what


class Breaks(StillError):
    """Some program breaks: the least size of such a one."""

    def __init__(self, what):
        super().__init__(f"a program breaks: {what}")
        self.what = what


class Holds(StillError):
    """No program breaks: None."""

    def __init__(self, what):
        super().__init__("no program breaks")
        self.what = what


class NoBridge(StillError):
    """No bridge is laid or walked: the name of the door."""

    def __init__(self, what):
        super().__init__(f"no bridge: {what}")
        self.what = what


class NoText(StillError):
    """The text writes nothing: the text."""

    def __init__(self, what):
        super().__init__(f"no text: {what}")
        self.what = what


class NoRow(StillError):
    """The text is no row of the desk: the text."""

    def __init__(self, what):
        super().__init__(f"no row: {what}")
        self.what = what


class NoName(StillError):
    """The name stands for nothing: the name."""

    def __init__(self, what):
        super().__init__(f"no name: {what}")
        self.what = what


class NoKind(StillError):
    """The term has no kind: the places that lead to its faulty part, and the fault of that part."""

    def __init__(self, place, fault):
        super().__init__(f"no kind: {fault}")
        self.place = list(place)
        self.fault = fault
