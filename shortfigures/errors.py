"""The errors of the program.

Each class derives straight from its base, and so each one has an `__init__` of its own.
"""


class InputError(ValueError):
    """An argument is not as it has to be."""


class StateError(LookupError):
    """The state of a book does not let something be done."""


class SizeError(ArithmeticError):
    """Something would become too large."""


class NotALadder(InputError):
    """`value` is not a ladder."""

    def __init__(self, value):
        self.value = value


class NotABook(InputError):
    """`value` is not a book."""

    def __init__(self, value):
        self.value = value


class InvalidDecimals(InputError):
    """`value` is not a number of decimals that the units allow."""

    def __init__(self, value):
        self.value = value


class InvalidRounding(InputError):
    """`value` is not one of the roundings."""

    def __init__(self, value):
        self.value = value


class InvalidCarry(InputError):
    """`value` is neither True nor False."""

    def __init__(self, value):
        self.value = value


class InvalidLeast(InputError):
    """`value` is not an integer from 1 to 1000."""

    def __init__(self, value):
        self.value = value


class InvalidNumber(InputError):
    """`value` is not a number, or not one that may stand here."""

    def __init__(self, value):
        self.value = value


class InvalidFigure(InputError):
    """`value` is not a figure of the ladder."""

    def __init__(self, value):
        self.value = value


class InvalidPlace(InputError):
    """`value` is not a place."""

    def __init__(self, value):
        self.value = value


class InvalidLine(InputError):
    """`value` is not a line that a console understands."""

    def __init__(self, value):
        self.value = value


class NeverShown(InputError):
    """`value` is a figure that the ladder does not show."""

    def __init__(self, value):
        self.value = value


class InvalidUnits(InputError):
    """The unit at the place `index` is bad, or the units as a whole if it is None."""

    def __init__(self, index):
        self.index = index


class InvalidSights(InputError):
    """The sight at the place `index` is bad, or the sights as a whole if it is None."""

    def __init__(self, index):
        self.index = index


class InvalidTexts(InputError):
    """The text at the place `index` is bad, or the texts as a whole if it is None."""

    def __init__(self, index):
        self.index = index


class InvalidSeen(InputError):
    """The thing seen at the place `index` is bad, or all of them as a whole if it is None."""

    def __init__(self, index):
        self.index = index


class InvalidDeeds(InputError):
    """The deed at the place `index` is bad."""

    def __init__(self, index):
        self.index = index


class Impossible(StateError):
    """The rows and the total of a book could not be true together."""


class NothingToUndo(StateError):
    """There is no deed that could be taken back."""


class Busy(StateError):
    """The book is in the midst of several deeds."""


class TooMany(SizeError):
    """There would be more than `limit` of something."""

    def __init__(self, limit):
        self.limit = limit
