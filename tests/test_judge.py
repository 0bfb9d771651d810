"""The judge of expressions and of sequences ([9.2])."""

import itertools
import unittest

from code_samples import tile_of_name
from leasttiles.judge import judge, judge_sequence
from leasttiles.sequences import sequence_value
from leasttiles.words import PAIRS, compute
from samples import REG, Dice, nest

A, B = ("var", 0), ("var", 1)


def n(word):
    return ("int", word)


def word_of(width, e, words):
    """The word of an expression without loads."""
    if e[0] == "int":
        return e[1]
    if e[0] == "var":
        return words[e[1]]
    parts = [word_of(width, part, words) for part in e[1:]]
    return compute(e[0], width, parts[0], parts[-1])


def first_difference(width, inputs, first, second):
    """The least words for which two expressions differ, by looking at all."""
    for words in itertools.product(range(2 ** width), repeat=inputs):
        if word_of(width, first, words) != word_of(width, second, words):
            return words
    return None


def without_loads(dice, width, deep, inputs):
    """A random expression over so many variables."""
    e = dice.expression(width, deep, inputs)
    while "load" in repr(e):
        e = dice.expression(width, deep, inputs)
    return e


class Expressions(unittest.TestCase):
    def test_equal_ones(self):
        for first, second in (
            (("add", A, A), ("shl", A, n(1))), (("xor", A, B), ("sub", ("or", A, B), ("and", A, B))),
            (("mul", A, n(3)), ("add", A, ("add", A, A))), (("not", A), ("sub", n(255), A)), (n(7), n(7)), (A, A),
            (("less", A, B), ("less", ("add", n(0), A), B)), (("equal", A, B), ("equal", n(0), ("xor", A, B))),
        ):
            self.assertIsNone(judge(8, 2, first, second))
            self.assertIsNone(judge(8, 2, second, first))

    def test_the_least_words(self):
        for width, inputs, first, second, words in (
            (8, 1, n(1), n(2), (0,)),
            (8, 1, A, ("and", A, n(127)), (128,)),
            (8, 1, ("equal", A, n(255)), n(0), (255,)),
            (16, 1, ("equal", A, n(65535)), n(0), (65535,)),
            (16, 1, ("less", A, n(65535)), n(1), (65535,)),
            (16, 1, ("equal", A, n(40000)), n(0), (40000,)),
            (8, 2, A, B, (0, 1)),
            (8, 2, ("equal", ("sub", A, B), n(255)), n(0), (0, 1)),
            (8, 2, ("and", ("equal", A, n(255)), ("equal", B, n(255))), n(0), (255, 255)),
            (8, 2, ("and", ("equal", A, n(3)), ("equal", B, n(200))), n(0), (3, 200)),
            (4, 4, ("mul", ("var", 2), ("var", 3)), ("add", ("var", 2), ("var", 3)), (0, 0, 0, 1)),
            (1, 6, ("var", 5), ("var", 0), (0, 0, 0, 0, 0, 1)),
            (1, 1, A, ("not", A), (0,)),
            (1, 1, A, n(0), (1,)),
            (2, 6, ("equal", ("var", 0), n(3)), n(0), (3, 0, 0, 0, 0, 0)),
        ):
            found = judge(width, inputs, first, second)
            self.assertEqual(found, words)
            self.assertIs(type(found), tuple)
            self.assertEqual(judge(width, inputs, second, first), words)

    def test_no_input(self):
        self.assertIsNone(judge(8, 0, n(44), ("add", n(200), n(100))))
        self.assertEqual(judge(8, 0, n(45), ("add", n(200), n(100))), ())

    def test_random_ones(self):
        counts = {True: 0, False: 0}
        for seed in range(300):
            dice = Dice(seed)
            width, inputs = dice.pick([(1, 1), (1, 4), (2, 2), (2, 3), (3, 2), (6, 1)])
            first, second = (without_loads(dice, width, 4, inputs) for _ in range(2))
            if dice.number(0, 3) == 0:
                second = ("sub", ("add", ("var", 0), first), ("var", 0))
            wanted = first_difference(width, inputs, first, second)
            self.assertEqual(judge(width, inputs, first, second), wanted)
            counts[wanted is None] += 1
        self.assertGreater(min(counts.values()), 50)

    def test_deep_ones(self):
        e = A
        for _ in range(19):
            e = ("add", e, e)
        # 2**19 times the input: no bit is left.
        self.assertIsNone(judge(16, 1, e, n(0)))
        self.assertEqual(judge(16, 1, nest("neg", A, 20), A), (1,))
        self.assertIsNone(judge(16, 1, nest("neg", A, 19), A))


class Sequences(unittest.TestCase):
    MACHINE = (
        8, 4, 0, (1, 1, 1),
        (
            *[(op, "reg", (op, REG, ("nt", "src")), 1, 1, 0, ()) for op in PAIRS],
            ("not", "reg", ("not", REG), 1, 1, 0, ()),
            ("srcr", "src", REG, 1, 1, 0, ()),
            ("srci", "src", ("imm", -128, 127), 0, 1, 0, ()),
        ),
    )

    def item(self, op, *operands):
        """An item whose tile has a register or, for a pair of the word and a number, a number at its end."""
        if op == "not":
            return (tile_of_name(self.MACHINE, op), operands)
        kind = tile_of_name(self.MACHINE, "srci" if type(operands[1]) is list else "srcr")
        return (tile_of_name(self.MACHINE, op, kind), (operands[0], *operands[1]) if kind[0] == 12 else operands)

    def test_the_empty_one(self):
        self.assertIsNone(judge_sequence(self.MACHINE, 2, (), A))
        self.assertEqual(judge_sequence(self.MACHINE, 2, (), B), (0, 1))
        self.assertEqual(judge_sequence(self.MACHINE, 1, (), ("and", A, n(254))), (1,))

    def test_equal_ones(self):
        shift = (self.item("add", 0, 0), self.item("add", 1, 1))
        self.assertIsNone(judge_sequence(self.MACHINE, 1, shift, ("shl", A, n(2))))
        self.assertIsNone(judge_sequence(self.MACHINE, 2, (self.item("sub", 1, 0), self.item("not", 2)),
                                         ("add", ("sub", A, B), n(255))))
        self.assertIsNone(judge_sequence(self.MACHINE, 1, (self.item("xor", 0, [-1]),), ("not", A)))

    def test_the_least_words(self):
        last = (self.item("equal", 0, [-1]), self.item("and", 1, [1]))
        self.assertEqual(judge_sequence(self.MACHINE, 1, last, n(0)), (255,))
        self.assertEqual(judge_sequence(self.MACHINE, 2, (self.item("sub", 0, 1),), ("sub", B, A)), (0, 1))
        self.assertEqual(judge_sequence(self.MACHINE, 2, (self.item("mul", 0, 1),), ("int", 0)), (1, 1))
        self.assertEqual(judge_sequence(self.MACHINE, 1, (self.item("less", 0, [77]),), n(1)), (77,))

    def test_random_ones(self):
        for seed in range(60):
            dice = Dice(seed)
            machine = (dice.number(1, 3), *self.MACHINE[1:])
            width, inputs = machine[0], dice.number(1, 2)
            sequence = []
            for many in range(inputs, inputs + dice.number(0, 3)):
                op = dice.pick([*PAIRS, "not"])
                one, other = dice.number(0, many - 1), dice.number(0, many - 1)
                end = [dice.number(-3, 3)] if dice.number(0, 1) else other
                sequence.append(self.item(op, one) if op == "not" else self.item(op, one, end))
            e = without_loads(dice, width, 3, inputs)
            wanted = None
            for words in itertools.product(range(2 ** width), repeat=inputs):
                if sequence_value(machine, tuple(sequence), words) != word_of(width, e, words):
                    wanted = words
                    break
            self.assertEqual(judge_sequence(machine, inputs, tuple(sequence), e), wanted)


if __name__ == "__main__":
    unittest.main()
