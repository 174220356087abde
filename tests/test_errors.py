"""[3] the constants, [16] the error classes."""

import unittest

from treethaw import errors, limits
from treethaw.errors import (
    BadLine, BadStep, BadText, Barred, NoOrder, NoProcess, NotNow, NotRunning, Outside,
)

WITH_VALUE = [
    (BadLine, ValueError, "number", 3),
    (Outside, ValueError, "what", ("thing", 5, 0)),
    (NoProcess, LookupError, "number", 9),
    (BadStep, LookupError, "index", 0),
    (NotRunning, RuntimeError, "number", 8),
    (Barred, RuntimeError, "reason", ("ring", [3, 4])),
    (NotNow, RuntimeError, "word", "given"),
]
WITHOUT_VALUE = [(BadText, ValueError), (NoOrder, ValueError)]


class Limits(unittest.TestCase):
    def test_constants(self):
        self.assertEqual((limits.MOST, limits.ROOM, limits.LETTERS, limits.CELLS), (199, 8, 4, 4))


class Errors(unittest.TestCase):
    def test_base_classes(self):
        for row in WITH_VALUE + WITHOUT_VALUE:
            with self.subTest(row[0].__name__):
                self.assertEqual(row[0].__bases__, (row[1],))
                self.assertEqual(row[0].__module__, "treethaw.errors")

    def test_by_position(self):
        for kind, _, name, value in WITH_VALUE:
            with self.subTest(kind.__name__):
                self.assertEqual(getattr(kind(value), name), value)

    def test_by_name(self):
        for kind, _, name, value in WITH_VALUE:
            with self.subTest(kind.__name__):
                self.assertEqual(getattr(kind(**{name: value}), name), value)

    def test_number_of_values(self):
        for kind, _, _, value in WITH_VALUE:
            with self.subTest(kind.__name__):
                self.assertRaises(TypeError, kind)
                self.assertRaises(TypeError, kind, value, value)

    def test_without_values(self):
        for kind, _ in WITHOUT_VALUE:
            with self.subTest(kind.__name__):
                self.assertIsInstance(kind(), kind)
                self.assertRaises(TypeError, kind, 1)

    def test_raised_and_caught(self):
        for kind, base, name, value in WITH_VALUE:
            with self.subTest(kind.__name__), self.assertRaises(base) as caught:
                raise kind(value)
            self.assertEqual(getattr(caught.exception, name), value)

    def test_values_are_copied(self):
        row = [3, 4]
        barred, outside = Barred(("ring", row)), Outside([row])
        row.append(5)
        self.assertEqual(barred.reason, ("ring", [3, 4]))
        self.assertEqual(outside.what, [[3, 4]])

    def test_nine_classes(self):
        found = [at for at in vars(errors).values() if isinstance(at, type) and issubclass(at, Exception)]
        self.assertEqual(len(found), 9)


if __name__ == "__main__":
    unittest.main()
