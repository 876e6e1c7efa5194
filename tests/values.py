"""Values of many kinds, to be passed where they do not belong."""

import unittest

from shortfigures.ladders import Ladder
from shortfigures.samples import sample_ladder


def nested(levels):
    """Return tuples within tuples, so many levels deep."""
    thing = ()
    for _ in range(levels - 1):
        thing = (thing,)
    return thing


def odd_values():
    """Return values that are neither integers, nor strings, nor tuples that could be anything here."""
    return [None, b"", b"5", [], ["5"], (), ("5",), {}, {"5": 5}, set(), {5}, frozenset(), object(), len, int,
            ValueError, ValueError("5"), range(5), lambda number: number, nested(10), [[[[5]]]]]


# Values that are neither ladders nor numbers nor figures of the sample ladder, and some of its figures
# that are never shown.
NO_LADDERS = ["near", "", 5, True, ((("", 1), ("K", 1000)), 1, "near", True, 1), Ladder, sample_ladder] + odd_values()
NO_NUMBERS = [-1, 10 ** 18 + 1, -10 ** 21, 10 ** 21, True, False, "5", "", sample_ladder()] + odd_values()
NO_FIGURES = ["", "1K", "K", "01", "1.00K", "01.0K", "1.0k", "1.0B", "-1", "+1", " 1", "1.0 K", "1\n", "1.0", ".5K",
              "\u0661", "1" + "0" * 24, "1" + "0" * 23 + ".0K", 5, 0, True, False, ["1.0K"], ("1.0K",), b"1.0K",
              sample_ladder()] + odd_values()
UNSHOWN = ("0.5K", "0.0K", "0.9K", "1000.0K", "1000.1K", "1000", "1001", "0.9M", "0.0M")


# Values that are not tuples, and so neither texts nor anything else that comes in a tuple.
NO_TUPLES = [value for value in ["1.0K", "", 5, True, False, ["1.0K"], ["1.0K", "1.0K"], {"1.0K": "1.0K"},
                                 sample_ladder()] + odd_values() if not isinstance(value, tuple)]


class ErrorCase(unittest.TestCase):
    """A test that also looks at what an error tells."""

    def assert_value(self, kind, value, act, /, *args, **more):
        """Check that just this error comes, with this very value."""
        with self.assertRaises(kind) as caught:
            act(*args, **more)
        self.assertIs(kind, caught.exception.__class__)
        self.assertIs(value, caught.exception.value)

    def assert_index(self, kind, index, act, /, *args, **more):
        """Check that just this error comes, with this index."""
        with self.assertRaises(kind) as caught:
            act(*args, **more)
        self.assertIs(kind, caught.exception.__class__)
        self.assertEqual(index, caught.exception.index)
        self.assertNotIsInstance(caught.exception.index, bool)

    def assert_bad_texts(self, kind, act):
        """Check what `act(texts)` raises for all sorts of wrong texts of the sample ladder."""
        for value in NO_TUPLES:
            with self.subTest(value=value):
                self.assert_index(kind, None, act, value)
        for many in (13, 14, 200):
            self.assert_index(kind, None, act, ("1.0K",) * many)
            self.assert_index(kind, None, act, (None,) * many)
        for value in NO_FIGURES:
            with self.subTest(value=value):
                self.assert_index(kind, 0, act, (value,))
                self.assert_index(kind, 0, act, (value, "1.0K", value))
                self.assert_index(kind, 1, act, ("0.5K", value, None))
                self.assert_index(kind, 11, act, ("1.0K",) * 11 + (value,))
