"""The interface's list of error classes."""

import inspect
import unittest

from aboutface import errors

# name, class above it, the one value in its brackets or None
LISTED = (
    ("NoClimber", LookupError, "climber"),
    ("NoNumber", LookupError, "number"),
    ("NoDeed", LookupError, "many"),
    ("OtherRound", ValueError, "climber"),
    ("BadTable", ValueError, "climber"),
    ("NotStanding", ValueError, None),
    ("BadDeed", ValueError, "at"),
    ("BadText", ValueError, "text"),
    ("BadLine", ValueError, "at"),
    ("Last", RuntimeError, None),
    ("TooMany", OverflowError, "many"),
    ("Full", OverflowError, "many"),
)

WITH_VALUE = [(name, attribute) for name, above, attribute in LISTED if attribute]
WITHOUT_VALUE = [name for name, above, attribute in LISTED if not attribute]

VALUES = (0, 5, -1, 10 ** 60, -(10 ** 5000), "2 / x", "")


class ErrorsTest(unittest.TestCase):
    def test_all_twelve_and_no_more(self):
        found = [name for name, what in vars(errors).items() if inspect.isclass(what)]
        self.assertEqual(sorted(found), sorted(name for name, above, attribute in LISTED))
        self.assertEqual(len(found), 12)

    def test_direct_subclasses(self):
        for name, above, attribute in LISTED:
            with self.subTest(name):
                self.assertEqual(getattr(errors, name).__bases__, (above,))

    def test_made_by_position(self):
        for name, attribute in WITH_VALUE:
            for value in VALUES:
                with self.subTest(name):
                    made = getattr(errors, name)(value)
                    self.assertEqual(vars(made), {attribute: value})

    def test_made_by_name(self):
        for name, attribute in WITH_VALUE:
            for value in VALUES:
                with self.subTest(name):
                    made = getattr(errors, name)(**{attribute: value})
                    self.assertEqual(vars(made), {attribute: value})

    def test_made_without_values(self):
        for name in WITHOUT_VALUE:
            with self.subTest(name):
                self.assertEqual(vars(getattr(errors, name)()), {})

    def test_wrong_values(self):
        for name, attribute in WITH_VALUE:
            with self.subTest(name):
                kind = getattr(errors, name)
                self.assertRaises(TypeError, kind)
                self.assertRaises(TypeError, kind, 1, 2)
                self.assertRaises(TypeError, kind, other=1)
        for name in WITHOUT_VALUE:
            with self.subTest(name):
                self.assertRaises(TypeError, getattr(errors, name), 1)

    def test_raised_and_caught(self):
        for name, above, attribute in LISTED:
            with self.subTest(name):
                values = (10 ** 5000,) if attribute else ()
                with self.assertRaises(above) as caught:
                    raise getattr(errors, name)(*values)
                self.assertNotEqual(str(caught.exception), "")


if __name__ == "__main__":
    unittest.main()
