"""The interface, movedfolders/errors.py."""

import unittest

from movedfolders import errors

CLASSES = (
    ("InvalidHouse", ValueError, "part"),
    ("InvalidRules", ValueError, "index"),
    ("InvalidTree", ValueError, "index"),
    ("InvalidTask", ValueError, "part"),
    ("InvalidClaim", ValueError, None),
    ("InvalidContent", ValueError, "value"),
    ("InvalidDeeds", ValueError, None),
    ("ParseError", ValueError, "line"),
    ("UnknownItem", LookupError, "index"),
    ("UnknownThing", LookupError, "number"),
    ("UnknownGuard", LookupError, "number"),
    ("UnknownCheckpoint", LookupError, "number"),
    ("UnknownRecord", LookupError, "number"),
    ("NotAFolder", RuntimeError, "number"),
    ("Holds", RuntimeError, "number"),
    ("Within", RuntimeError, "number"),
    ("NotLet", RuntimeError, "number"),
    ("Reachable", RuntimeError, "value"),
    ("Refused", RuntimeError, "index"),
    ("LimitExceeded", OverflowError, "limit"),
)

ARGUMENTS = (None, 0, 200, ("kind", 3), ("sizes",), (0, 1), [1], {"a": [1]}, "text")


class Errors(unittest.TestCase):

    def test_these_classes_and_no_others(self):
        own = [name for name in dir(errors) if not name.startswith("_")]
        self.assertEqual(own, sorted(name for name, _, _ in CLASSES))

    def test_defined_in_this_file(self):
        for name, _, _ in CLASSES:
            self.assertEqual(getattr(errors, name).__module__, "movedfolders.errors")

    def test_direct_subclass_of_the_built_in_error(self):
        for name, base, _ in CLASSES:
            with self.subTest(name):
                self.assertEqual(getattr(errors, name).__bases__, (base,))

    def test_none_is_a_subclass_of_another(self):
        for name, _, _ in CLASSES:
            for other, _, _ in CLASSES:
                if name != other:
                    self.assertFalse(issubclass(getattr(errors, name), getattr(errors, other)))

    def test_argument_by_position_and_by_name(self):
        for name, _, argument in CLASSES:
            made = getattr(errors, name)
            for value in ARGUMENTS if argument else ():
                with self.subTest(name, value=value):
                    self.assertIs(getattr(made(value), argument), value)
                    self.assertIs(getattr(made(**{argument: value}), argument), value)

    def test_without_argument(self):
        for name, _, argument in CLASSES:
            made = getattr(errors, name)
            with self.subTest(name):
                if argument is None:
                    self.assertIsInstance(made(), made)
                else:
                    self.assertRaises(TypeError, made)
                    self.assertRaises(TypeError, made, 0, 0)

    def test_raised_and_caught_by_name(self):
        for name, base, argument in CLASSES:
            made = getattr(errors, name)
            with self.subTest(name):
                with self.assertRaises(base) as caught:
                    raise made(7) if argument else made()
                self.assertIs(caught.exception.__class__, made)
                if argument:
                    self.assertEqual(getattr(caught.exception, argument), 7)


if __name__ == "__main__":
    unittest.main()
