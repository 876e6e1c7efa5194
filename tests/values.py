"""Values of many kinds, to be passed where they do not belong."""

import unittest


def nested(levels):
    """Return tuples within tuples, so many levels deep."""
    thing = ()
    for _ in range(levels - 1):
        thing = (thing,)
    return thing


def odd_values():
    """Return values that are neither integers, nor strings, nor tuples that could be anything here."""
    return [None, b"", b"5", [], ["5"], (), ("5",), {}, {"5": 5}, set(), {5}, frozenset(), object(), len, int,
            ValueError, ValueError("5"), range(5), lambda number: number, nested(10), [[[[5]]]]]


class ErrorCase(unittest.TestCase):
    """A test that also looks at what an error tells."""

    def assert_value(self, kind, value, act, *args, **more):
        """Check that just this error comes, with this very value."""
        with self.assertRaises(kind) as caught:
            act(*args, **more)
        self.assertIs(kind, caught.exception.__class__)
        self.assertIs(value, caught.exception.value)

    def assert_index(self, kind, index, act, *args, **more):
        """Check that just this error comes, with this index."""
        with self.assertRaises(kind) as caught:
            act(*args, **more)
        self.assertIs(kind, caught.exception.__class__)
        self.assertEqual(index, caught.exception.index)
        self.assertNotIsInstance(caught.exception.index, bool)
