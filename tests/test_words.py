"""[1.1] words."""

import unittest

from leasttiles.words import PAIRS, SINGLES, compute, top

WIDTHS = (1, 2, 8, 16)


def words_of(w):
    """0, 1, the top word, powers of two and words beside them."""
    found = {0, 1, 2 ** w - 1, max(0, 2 ** w - 2), 2 ** (w - 1)}
    found.update(2 ** k for k in range(w))
    return sorted(found)


def bits(w, x):
    return [x // 2 ** k % 2 for k in range(w)]


def by_bits(w, x, y, pick):
    return sum(2 ** k for k, (a, b) in enumerate(zip(bits(w, x), bits(w, y))) if pick(a, b))


EXPECTED = {
    "add": lambda w, x, y: (x + y) % 2 ** w,
    "sub": lambda w, x, y: (x - y) % 2 ** w,
    "mul": lambda w, x, y: x * y % 2 ** w,
    "and": lambda w, x, y: by_bits(w, x, y, lambda a, b: a + b == 2),
    "or": lambda w, x, y: by_bits(w, x, y, lambda a, b: a + b > 0),
    "xor": lambda w, x, y: by_bits(w, x, y, lambda a, b: a != b),
    "shl": lambda w, x, y: 0 if y >= w else x * 2 ** y % 2 ** w,
    "shr": lambda w, x, y: 0 if y >= w else x // 2 ** y,
    "less": lambda w, x, y: int(x < y),
    "equal": lambda w, x, y: int(x == y),
}


class Words(unittest.TestCase):
    def test_names(self):
        self.assertEqual(
            PAIRS, ("add", "sub", "mul", "and", "or", "xor", "shl", "shr", "less", "equal")
        )
        self.assertEqual(SINGLES, ("not", "neg"))

    def test_top(self):
        self.assertEqual([top(w) for w in (1, 2, 8, 16)], [1, 3, 255, 65535])

    def test_pairs(self):
        for w in WIDTHS:
            for op in PAIRS:
                for x in words_of(w):
                    for y in words_of(w):
                        got = compute(op, w, x, y)
                        self.assertIs(type(got), int)
                        self.assertEqual(got, EXPECTED[op](w, x, y), (op, w, x, y))

    def test_all_small_words(self):
        for w in (1, 2, 3, 4):
            for op in PAIRS:
                for x in range(2 ** w):
                    for y in range(2 ** w):
                        self.assertEqual(compute(op, w, x, y), EXPECTED[op](w, x, y))

    def test_singles(self):
        for w in WIDTHS:
            for x in words_of(w):
                self.assertEqual(compute("not", w, x, 0), 2 ** w - 1 - x)
                self.assertEqual(compute("neg", w, x, 0), (2 ** w - x) % 2 ** w)
            self.assertEqual(compute("neg", w, 0, 0), 0)
            self.assertEqual(compute("neg", w, 2 ** (w - 1), 0), 2 ** (w - 1))

    def test_shifts_at_the_width(self):
        for w in (2, 8, 16):
            self.assertEqual(compute("shl", w, 1, w - 1), 2 ** (w - 1))
            self.assertEqual(compute("shl", w, top(w), w - 1), 2 ** (w - 1))
            self.assertEqual(compute("shr", w, top(w), w - 1), 1)
            for y in (w, w + 1, top(w)):
                if y >= w:
                    self.assertEqual(compute("shl", w, 1, y), 0)
                    self.assertEqual(compute("shr", w, top(w), y), 0)
        self.assertEqual(compute("shl", 1, 1, 1), 0)
        self.assertEqual(compute("shr", 1, 1, 1), 0)
        self.assertEqual(compute("shl", 1, 1, 0), 1)

    def test_second_part_is_not_looked_at(self):
        for op in SINGLES:
            for y in (None, -1, 10 ** 30, "word", ()):
                self.assertEqual(compute(op, 8, 5, y), compute(op, 8, 5, 0))


if __name__ == "__main__":
    unittest.main()
