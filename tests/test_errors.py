import unittest

from shortfigures import errors
from tests.values import odd_values

BASES = {"InputError": ValueError, "StateError": LookupError, "SizeError": ArithmeticError}
WITH_VALUE = ("NotALadder", "NotABook", "InvalidDecimals", "InvalidRounding", "InvalidCarry", "InvalidLeast",
              "InvalidNumber", "InvalidFigure", "InvalidPlace", "InvalidLine", "NeverShown")
WITH_INDEX = ("InvalidUnits", "InvalidSights", "InvalidTexts", "InvalidSeen", "InvalidDeeds")
WITHOUT = ("Impossible", "NothingToUndo", "Busy")
WITH_LIMIT = ("TooMany",)
ATTRIBUTES = ("value", "index", "limit")


def listed():
    """Return triples of the name of a class, the name of its base, and its attribute or None."""
    return ([(name, "InputError", "value") for name in WITH_VALUE]
            + [(name, "InputError", "index") for name in WITH_INDEX]
            + [(name, "StateError", None) for name in WITHOUT]
            + [(name, "SizeError", "limit") for name in WITH_LIMIT])


def own_classes(kind):
    return [above for above in kind.__mro__ if above.__module__ == errors.__name__]


class ErrorsTest(unittest.TestCase):

    def test_bases(self):
        for name, python_base in BASES.items():
            with self.subTest(name=name):
                kind = getattr(errors, name)
                self.assertEqual((python_base,), kind.__bases__)
                self.assertEqual([kind], own_classes(kind))
                self.assert_no_attributes(kind())

    def test_each_class_has_its_base_and_no_other_class_above(self):
        for name, base, _ in listed():
            with self.subTest(name=name):
                kind = getattr(errors, name)
                self.assertEqual(name, kind.__name__)
                self.assertEqual([kind, getattr(errors, base)], own_classes(kind))
                self.assertTrue(issubclass(kind, BASES[base]))

    def test_no_class_is_another_one(self):
        kinds = [getattr(errors, name) for name, _, _ in listed()] + [getattr(errors, name) for name in BASES]
        self.assertEqual(23, len(kinds))
        self.assertEqual(23, len(set(kinds)))
        for kind in kinds:
            own = (kind,) if kind.__name__ in BASES else (kind, kind.__bases__[0])
            for other in kinds:
                self.assertEqual(other in own, issubclass(kind, other), (kind, other))

    def test_each_class_is_defined_in_its_file(self):
        for name in [name for name, _, _ in listed()] + list(BASES):
            self.assertEqual("shortfigures.errors", getattr(errors, name).__module__)

    def test_attributes_by_position_and_by_keyword(self):
        for name, _, attribute in listed():
            for told in [0, 3, True, "text", 10 ** 21] + odd_values():
                if attribute is not None:
                    with self.subTest(name=name, told=told):
                        kind = getattr(errors, name)
                        self.assert_only(attribute, told, kind(told))
                        self.assert_only(attribute, told, kind(**{attribute: told}))

    def test_classes_without_attributes(self):
        for name in WITHOUT:
            with self.subTest(name=name):
                self.assert_no_attributes(getattr(errors, name)())

    def test_caught_by_what_is_above(self):
        for name, base, attribute in listed():
            kind = getattr(errors, name)
            for above in (kind, getattr(errors, base), BASES[base]):
                with self.assertRaises(above):
                    raise kind() if attribute is None else kind(None)

    def assert_only(self, attribute, told, error):
        self.assertIs(told, getattr(error, attribute))
        for other in ATTRIBUTES:
            self.assertEqual(other == attribute, hasattr(error, other))

    def assert_no_attributes(self, error):
        for attribute in ATTRIBUTES:
            self.assertFalse(hasattr(error, attribute))


if __name__ == "__main__":
    unittest.main()
