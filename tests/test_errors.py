"""[1.2] errors."""

import unittest

from leasttiles.errors import AssemblyError, NoRegisters, PackError, TextError, TilesError, Uncovered

FIELDS = (
    (TextError, "line", 7),
    (Uncovered, "path", (12, -1)),
    (NoRegisters, "label", 40),
    (AssemblyError, "at", 3),
    (PackError, "at", -1),
)


class Errors(unittest.TestCase):
    def test_base(self):
        self.assertTrue(issubclass(TilesError, ValueError))
        self.assertIsInstance(TilesError("why"), ValueError)

    def test_fields(self):
        for kind, field, worth in FIELDS:
            error = kind(worth)
            self.assertIsInstance(error, TilesError)
            self.assertIsInstance(error, ValueError)
            self.assertEqual(getattr(error, field), worth)

    def test_caught_as_base_and_apart(self):
        for kind, field, worth in FIELDS:
            with self.assertRaises(TilesError) as caught:
                raise kind(worth)
            self.assertEqual(getattr(caught.exception, field), worth)
            for other, _, _ in FIELDS:
                if other is not kind:
                    self.assertNotIsInstance(caught.exception, other)

    def test_message(self):
        for kind, _, worth in FIELDS:
            self.assertIsInstance(str(kind(worth)), str)


if __name__ == "__main__":
    unittest.main()
