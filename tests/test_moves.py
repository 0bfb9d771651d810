"""[7.4] moves at once."""

import itertools
import unittest

from leasttiles.moves import sequence
from samples import Dice

SPARE = 9


def rings(pairs):
    """How many rings of two or more registers there are."""
    source = {d: s for d, s in pairs if d != s}
    seen, count = set(), 0
    for first in source:
        way, here = set(), first
        while here in source and here not in seen:
            seen.add(here)
            way.add(here)
            here = source[here]
        # The way has come back to a register of its own: it has found a ring that none has found before.
        count += here in way
    return count


class Sequence(unittest.TestCase):
    def check(self, pairs, spare=SPARE):
        """The moves do what the pairs say, and are as many as they should be."""
        pairs = tuple(pairs)
        found = sequence(pairs, spare)
        self.assertIs(type(found), list)
        words = {}
        for move in found:
            self.assertEqual((type(move), move[0], len(move)), (tuple, "move", 3))
            words[move[1]] = words.get(move[2], move[2])
        expected = {d: s for d, s in pairs}
        for r in {*words, *expected} - {spare}:
            self.assertEqual(words.get(r, r), expected.get(r, r), (pairs, found))
        many = rings(pairs)
        self.assertEqual(len(found), len([1 for d, s in pairs if d != s]) + many, (pairs, found))
        if many == 0:
            self.assertNotIn(spare, words)
        return found

    def test_none(self):
        self.assertEqual(sequence((), SPARE), [])

    def test_the_same_register(self):
        self.assertEqual(sequence(((3, 3),), SPARE), [])
        self.assertEqual(sequence(((3, 3), (1, 1)), SPARE), [])
        self.assertEqual(sequence(((3, 3), (1, 3)), SPARE), [("move", 1, 3)])

    def test_chains(self):
        self.assertEqual(sequence(((1, 2), (2, 3), (3, 4)), SPARE), [("move", 1, 2), ("move", 2, 3), ("move", 3, 4)])
        self.assertEqual(sequence(((3, 4), (2, 3), (1, 2)), SPARE), [("move", 1, 2), ("move", 2, 3), ("move", 3, 4)])
        self.check([(1, 2), (3, 2), (4, 2)])
        self.check([(1, 2), (3, 2), (2, 5), (6, 5)])

    def test_rings(self):
        self.assertEqual(len(self.check([(1, 2), (2, 1)])), 3)
        self.assertEqual(len(self.check([(1, 2), (2, 3), (3, 1)])), 4)
        self.assertEqual(len(self.check([(1, 2), (2, 1), (3, 4), (4, 3)])), 6)
        self.assertEqual(len(self.check([(1, 2), (2, 1), (3, 4), (4, 5), (5, 3), (7, 7), (8, 0)])), 8)

    def test_a_ring_with_chains(self):
        self.assertEqual(len(self.check([(1, 2), (2, 1), (3, 1)])), 4)
        self.assertEqual(len(self.check([(1, 2), (2, 1), (3, 1), (4, 3), (5, 2), (6, 2)])), 7)

    def test_the_spare(self):
        for spare in (0, 5, 15, 100):
            self.check([(1, 2), (2, 1), (3, 1)], spare)

    def test_all_of_four_registers(self):
        for many in range(5):
            for targets in itertools.permutations(range(4), many):
                for sources in itertools.product(range(5), repeat=many):
                    self.check(zip(targets, sources))

    def test_random(self):
        for seed in range(200):
            dice = Dice(seed)
            size = dice.number(1, 15)
            targets = dice.source.sample(range(16), size)
            spare = 50
            sources = [dice.number(0, 15) for _ in targets]
            if dice.number(0, 1):
                sources = dice.source.sample(targets, size)
            self.check(zip(targets, sources), spare)

    def test_long(self):
        self.check([(at, at + 1) for at in range(5000)], 9999)
        self.check([(at, (at + 1) % 5000) for at in range(5000)], 9999)
        self.check([(at ^ 1, at) for at in range(5000)], 9999)


if __name__ == "__main__":
    unittest.main()
