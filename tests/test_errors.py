"""The classes of errors, as the interface of errors.py lists them."""

import unittest

from strongbit import errors

from samples import ODD_VALUES

CLASSES = [
    ("BadEnd", ValueError, ("part", "row")),
    ("BadFault", ValueError, ("bit", "station")),
    ("BadFrame", ValueError, ("frame",)),
    ("BadText", ValueError, ("text",)),
    ("BadCommand", ValueError, ("command",)),
    ("NoPromise", ValueError, ("promise",)),
    ("NoStation", KeyError, ("station",)),
    ("NoName", KeyError, ("name",)),
    ("NoOutcome", LookupError, ("outcome",)),
    ("NothingToUndo", LookupError, ()),
    ("BadDeed", IndexError, ("index",)),
    ("Endless", RuntimeError, ("bit", "ring")),
    ("NothingWaits", RuntimeError, ()),
    ("NoHearer", RuntimeError, ()),
    ("NoLine", RuntimeError, ()),
    ("TooMany", OverflowError, ("limit",)),
    ("Unsound", ArithmeticError, ()),
    ("Unbounded", ArithmeticError, ()),
    ("Taken", TypeError, ("frame",)),
]


class TestErrors(unittest.TestCase):
    def test_each_class_is_directly_under_its_base(self):
        for name, base, fields in CLASSES:
            with self.subTest(name=name):
                self.assertEqual(getattr(errors, name).__bases__, (base,))
                self.assertEqual(getattr(errors, name).__module__, "strongbit.errors")

    def test_no_class_is_missing_or_further(self):
        defined = [name for name, value in vars(errors).items() if isinstance(value, type)]
        self.assertEqual(sorted(defined), sorted(name for name, base, fields in CLASSES))

    def test_fields_by_position(self):
        for name, base, fields in CLASSES:
            with self.subTest(name=name):
                values = [f"value {index}" for index in range(len(fields))]
                error = getattr(errors, name)(*values)
                self.assertEqual([getattr(error, field) for field in fields], values)

    def test_fields_by_name(self):
        for name, base, fields in CLASSES:
            with self.subTest(name=name):
                values = {field: f"the {field}" for field in reversed(fields)}
                error = getattr(errors, name)(**values)
                self.assertEqual({field: getattr(error, field) for field in fields}, values)

    def test_fields_may_be_any_values(self):
        for name, base, fields in CLASSES:
            for value in ODD_VALUES:
                error = getattr(errors, name)(*[value for field in fields])
                for field in fields:
                    self.assertIs(getattr(error, field), value)

    def test_each_is_caught_under_its_own_name(self):
        for name, base, fields in CLASSES:
            own = getattr(errors, name)
            with self.subTest(name=name):
                with self.assertRaises(own) as caught:
                    raise own(*fields)
                self.assertIs(type(caught.exception), own)
                self.assertIsInstance(caught.exception, base)


if __name__ == "__main__":
    unittest.main()
