"""Packing ([11.4])."""

import unittest

from leasttiles.errors import PackError
from leasttiles.packing import pack, unpack
from samples import Dice, wrap

SIGNS = "abcdefghijklmnopqrstuvwxyz0123456789"


def size(n):
    """The bytes of a number from 0 on, by the words of the document."""
    digits = [n % 128]
    while n >= 128:
        n //= 128
        digits.append(n % 128)
    return [digit + 128 for digit in digits[:-1]] + digits[-1:]


def packed(value):
    """The bytes of a value, by the words of the document."""
    if value is None:
        return [0]
    if value is False or value is True:
        return [1 + value]
    if isinstance(value, int):
        return [3, *size(value)] if value >= 0 else [4, *size(-1 - value)]
    if isinstance(value, str):
        return [5, *size(len(value)), *[SIGNS.index(sign) for sign in value]]
    return [6, *size(len(value)), *[byte for item in value for byte in packed(item)]]


class Stop(Exception):
    """A plain reading of bytes came to a byte that cannot stand there."""


def read(data):
    """The value of bytes, or the index at which they are wrong, read plainly from the left."""
    at = 0

    def byte(limit):
        nonlocal at
        if at == len(data):
            raise Stop
        if data[at] >= limit:
            raise Stop
        at += 1
        return data[at - 1]

    def number():
        nonlocal at
        digits = [byte(256)]
        while digits[-1] >= 128:
            digits.append(byte(256))
        if len(digits) > 1 and digits[-1] == 0:
            at -= 1
            raise Stop
        return sum((digit % 128) * 128 ** k for k, digit in enumerate(digits))

    def item(deep):
        first = byte(7 if deep < 60 else 6)
        if first < 3:
            return (None, False, True)[first]
        n = number()
        if first == 5:
            return "".join([SIGNS[byte(36)] for _ in range(n)])
        return tuple([item(deep + 1) for _ in range(n)]) if first == 6 else n if first == 3 else -1 - n

    try:
        value = item(0)
    except Stop:
        return at, None
    return (at, None) if at < len(data) else (-1, value)


def any_value(dice, deep):
    kind = dice.number(0, 9 if deep else 6)
    if kind < 3:
        return (None, False, True)[kind]
    if kind < 5:
        n = dice.pick([dice.number(0, 300), dice.number(0, 2 ** 40), 128 ** dice.number(0, 5)])
        return dice.pick([n, -n, n - 1, -1 - n])
    if kind < 7:
        return "".join(dice.pick(SIGNS) for _ in range(dice.pick([0, 1, 5, 200])))
    return tuple(any_value(dice, deep - 1) for _ in range(dice.pick([0, 1, 2, 3, 130 if deep == 1 else 4])))


class Pack(unittest.TestCase):
    def test_samples(self):
        for value, data in (
            (None, [0]), (False, [1]), (True, [2]), (0, [3, 0]), (1, [3, 1]), (-1, [4, 0]), (-2, [4, 1]), (127, [3, 127]),
            (128, [3, 128, 1]), (-128, [4, 127]), (-129, [4, 128, 1]), (300, [3, 172, 2]), (16383, [3, 255, 127]),
            (16384, [3, 128, 128, 1]), ("", [5, 0]), ("a", [5, 1, 0]), ("z0", [5, 2, 25, 26]), ("9", [5, 1, 35]), ((), [6, 0]),
            ((None,), [6, 1, 0]), ((1, (True, ()), "b"), [6, 3, 3, 1, 6, 2, 2, 6, 0, 5, 1, 1]),
            (2 ** 70, [3, *[128] * 10, 1]), (-2 ** 70, [4, *[255] * 9, 127]), ("a" * 128, [5, 128, 1, *[0] * 128]),
            ((None,) * 200, [6, 200, 1, *[0] * 200]),
        ):
            found = pack(value)
            self.assertEqual(found, data)
            self.assertIs(type(found), list)
            self.assertEqual(unpack(data), value)
            self.assertIs(type(unpack(data)), type(value))

    def test_true_is_not_one(self):
        self.assertEqual([pack(value) for value in (True, 1, False, 0)], [[2], [3, 1], [1], [3, 0]])
        self.assertIs(unpack([2]), True)
        self.assertIs(unpack([1]), False)
        self.assertEqual([type(item) for item in unpack([6, 3, 2, 3, 1, 0])], [bool, int, type(None)])

    def test_there_and_back(self):
        for seed in range(300):
            value = any_value(Dice(seed), 4)
            data = pack(value)
            self.assertEqual(data, packed(value))
            self.assertEqual(repr(unpack(data)), repr(value))
            self.assertEqual(repr(unpack(tuple(data))), repr(value))

    def test_nothing_is_changed(self):
        data = pack((1, "ab", (None, -300, (True,))))
        before = list(data)
        unpack(data)
        self.assertEqual(data, before)
        unpack(before)
        with self.assertRaises(PackError):
            unpack(data[:-1])
        self.assertEqual(data, before)

    def test_great_numbers(self):
        for n in (10 ** 3000, -10 ** 3000, 2 ** 7000 - 1, -2 ** 7000):
            self.assertEqual(unpack(pack(n)), n)
            self.assertEqual(pack(n), packed(n))

    def test_deep_tuples(self):
        for deep in (1, 2, 59, 60):
            value = wrap((), deep - 1)
            self.assertEqual(unpack(pack(value)), value)
            value = wrap(5, deep)
            self.assertEqual(pack(value), [6, 1] * deep + [3, 5])
            self.assertEqual(unpack(pack(value)), value)
        value = (wrap(1, 59), wrap((), 58), "a")
        self.assertEqual(unpack(pack(value)), value)

    def test_values_of_another_form(self):
        for bad in ([], [1], 1.5, {}, set(), b"a", "A", "a b", "_", "a\n", "\u00e4", "abc-", object(), 2 + 0j, range(3), int,
                    wrap((), 60), wrap(1, 61), wrap(1, 50000), float("nan"), bytearray(1), frozenset(), "\u0661", " "):
            for value in (bad, (bad,), (1, (2, bad), "x"), ("x", bad, [])):
                with self.assertRaises(PackError) as caught:
                    pack(value)
                self.assertEqual(caught.exception.at, -1)


class Unpack(unittest.TestCase):
    def refused(self, data, at):
        for row in (list(data), tuple(data)):
            with self.assertRaises(PackError) as caught:
                unpack(row)
            self.assertEqual(caught.exception.at, at)

    def test_data_that_ends_too_early(self):
        for data in ([], [3], [4], [5], [6], [3, 128], [3, 255, 255], [5, 1], [5, 3, 0, 1], [6, 1], [6, 2, 0], [6, 1, 6, 1],
                     [6, 2, 6, 0], [5, 128], [6, 255, 255, 255, 127], [5, 255, 255, 255, 255, 255, 1, 7], [6, 1, 3]):
            self.refused(data, len(data))

    def test_bytes_that_cannot_stand_there(self):
        for data, at in (
            ([7], 0), ([255], 0), ([6, 1, 7], 2), ([6, 2, 0, 9], 3), ([0, 0], 1), ([3, 5, 3], 2), ([6, 0, 0], 2),
            ([6, 1, 0, 0], 3), ([5, 0, 0], 2), ([5, 1, 36], 2), ([5, 2, 35, 255], 3), ([5, 2, 36], 2), ([3, 128, 0], 2),
            ([4, 255, 0], 2), ([3, 128, 128, 0], 3), ([5, 128, 0], 2), ([6, 128, 0], 2), ([6, 129, 0, 0], 2),
            ([6, 2, 7, 7], 2), ([2, 200], 1), ([6, 1, 3, 128, 0], 4), ([6, 1, 5, 1, 99], 4),
        ):
            self.refused(data, at)

    def test_digits_that_are_needed(self):
        self.assertEqual(unpack([3, 128, 1]), 128)
        self.assertEqual(unpack([3, 0]), 0)
        self.assertEqual(unpack([3, 128, 128, 1]), 16384)
        self.assertEqual(unpack([4, 255, 1]), -256)

    def test_tuples_that_nest_too_deep(self):
        self.assertEqual(unpack([6, 1] * 59 + [6, 0]), wrap((), 59))
        self.refused([6, 1] * 60 + [6, 0], 120)
        self.refused([6, 1] * 61 + [0], 120)
        self.refused([6, 1] * 50000, 120)
        self.assertEqual(unpack([6, 2] + [6, 1] * 59 + [0, 6, 0]), (wrap(None, 59), ()))

    def test_each_byte_changed(self):
        kinds = {"value": 0, "wrong": 0, "end": 0}
        for seed in range(60):
            dice = Dice(seed)
            data = pack(dice.pick([any_value(dice, 2), any_value(dice, 3), wrap(dice.number(-200, 200), dice.number(1, 60))]))
            data = data if len(data) < 200 else pack((1, "ab", (None, -300, (True,))))
            for at in range(len(data)):
                bytes_there = {data[at] ^ 1, data[at] ^ 128, 0, 6, 7, 36, 127, 255, dice.number(0, 255)} - {data[at]}
                rows = [data[:at] + [byte] + data[at + 1:] for byte in bytes_there]
                for row in [*rows, data[:at], data[:at] + data[at + 1:]]:
                    where, value = read(row)
                    if where == -1:
                        self.assertEqual(repr(unpack(row)), repr(value))
                        self.assertEqual(pack(value), row)
                    else:
                        self.refused(row, where)
                    kinds["value" if where == -1 else "end" if where == len(row) else "wrong"] += 1
            self.refused([*data, 0], len(data))
            self.refused([*data, *data], len(data))
        self.assertGreater(min(kinds.values()), 500)


if __name__ == "__main__":
    unittest.main()
