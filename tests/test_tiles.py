"""[3.3] tiles and [3.4] what they mean."""

import copy
import unittest

from leasttiles.machines import (
    are_operands, fits_imm, is_tile, leaves, ties_kept, tile_cost, tile_value, whole_pattern,
)
from leasttiles.words import PAIRS, SINGLES
from samples import MACHINE, REG, Dice, wrap

NAMES = [row[0] for row in MACHINE[4]]


def tile(name, *tiles):
    """The tile of a rule of MACHINE."""
    return (NAMES.index(name), tiles)


LI, ADD = tile("li"), tile("add")
SRCR, SRCI, ADRA, ADRR = tile("srcr"), tile("srci"), tile("adra"), tile("adrr")
STORE = tile("st", ADRA, SRCI)
BYTE = ("imm", -128, 127)
LOW = ("imm", 0, 15)

# Tiles of these nest without a limit, and go on over two tiles.
KINDS = (
    8,
    2,
    0,
    (1, 1, 1),
    (
        ("deep", "a", ("add", ("nt", "a"), ("imm", 1, 1)), 1, 1, 0, ()),
        ("leaf", "a", REG, 1, 1, 0, ()),
        ("six", "a", ("not", ("not", ("not", ("not", ("not", ("nt", "a")))))), 2, 1, 0, ()),
        ("take", "reg", ("nt", "a"), 1, 1, 0, ()),
        ("both", "reg", ("sub", ("nt", "a"), ("sub", REG, ("nt", "a"))), 3, 1, 0, (("same", 1), ("needs", 1, 0))),
    ),
)


def nested(deep, k=0):
    """A tile of rule k of KINDS that nests so deep."""
    value = (1, ())
    for _ in range(deep - 1):
        value = (k, (value,))
    return value


def random_tile(dice, machine, result, deep):
    """A tile of a rule with this result, or None."""
    rows = [k for k, rule in enumerate(machine[4]) if rule[1] == result]
    if not rows or deep == 0:
        return None
    k = dice.pick(rows)
    tiles = [random_tile(dice, machine, kind, deep - 1) for kind in kinds_in(machine[4][k][2])]
    return None if None in tiles else (k, tuple(tiles))


def kinds_in(pattern):
    if pattern[0] == "nt":
        return [pattern[1]]
    return [kind for part in pattern[1:] if isinstance(part, tuple) for kind in kinds_in(part)]


def planted(machine, value):
    """The whole pattern, by the words of the document."""
    parts = [planted(machine, part) for part in value[1]]

    def put(pattern):
        if pattern[0] == "nt":
            return parts.pop(0)
        return tuple(put(part) if isinstance(part, tuple) else part for part in pattern)

    return put(machine[4][value[0]][2])


def leaves_of(pattern):
    if pattern[0] in ("reg", "imm"):
        return (pattern,)
    return sum((leaves_of(part) for part in pattern[1:]), ())


class IsTile(unittest.TestCase):
    def test_tiles(self):
        for result, value in (
            ("reg", LI), ("reg", ADD), ("src", SRCR), ("src", SRCI), ("reg", tile("sub2", SRCR)), ("", STORE),
            ("reg", tile("ld", ADRR)), ("", tile("wr")), ("", tile("ret")), ("", tile("br", SRCI)), ("adr", ADRA),
        ):
            self.assertIs(is_tile(MACHINE, result, value), True, value)
            for other in ("reg", "", "src", "adr", "none"):
                self.assertEqual(is_tile(MACHINE, other, value), other == result, value)

    def test_nearly(self):
        last = len(NAMES)
        for value in (
            None, True, 0, "li", (), (0,), (0, (), ()), [0, ()], (0, []), (True, ()), (False, ()), (-1, ()), (-1,
            (SRCI,)),
            (last, ()), ("li", ()), (None, ()), (0, None), (0, (LI,)), (2, ()), (2, (LI,)), (2, (ADRR,)),
            (2, (SRCR, SRCR)), (2, [SRCR]), (2, (list(SRCR),)), (2, (None,)), (5, (SRCR,)), (2, ((3, (LI,)),)),
            (2, ((True, ()),)), wrap(1, 100000), (2, (wrap(1, 100000),)), (2, wrap(1, 100000)),
            (10 ** 30, ()), ((0, ()), ()),
        ):
            self.assertIs(is_tile(MACHINE, "reg", value), False, value)
        for value in (tile("st", ADRA), tile("st", SRCI, ADRA), tile("st", ADRA, SRCI, SRCI), tile("st")):
            self.assertIs(is_tile(MACHINE, "", value), False)

    def test_depth(self):
        for k in (0, 2):
            self.assertTrue(is_tile(KINDS, "a", nested(90, k)))
            self.assertFalse(is_tile(KINDS, "a", nested(91, k)))
            self.assertTrue(is_tile(KINDS, "reg", (3, (nested(89, k),))))
            self.assertFalse(is_tile(KINDS, "reg", (3, (nested(90, k),))))
        self.assertFalse(is_tile(KINDS, "a", nested(100000)))
        self.assertFalse(is_tile(KINDS, "reg", (4, (nested(100000), nested(100000)))))

    def test_no_rules(self):
        self.assertFalse(is_tile((*MACHINE[:4], ()), "reg", (0, ())))


class Parts(unittest.TestCase):
    def test_leaves(self):
        self.assertEqual(leaves(MACHINE, LI), (("imm", 0, 255),))
        self.assertEqual(leaves(MACHINE, ADD), (REG, REG))
        self.assertEqual(leaves(MACHINE, STORE), (REG, LOW, BYTE))
        self.assertEqual(leaves(MACHINE, tile("st", ADRR, SRCR)), (REG, REG))
        self.assertEqual(leaves(MACHINE, tile("sub2", SRCI)), (REG, BYTE))
        self.assertEqual(leaves(MACHINE, tile("br", SRCI)), (BYTE,))
        self.assertEqual(leaves(KINDS, (4, (nested(2), nested(1)))), (REG, ("imm", 1, 1), REG, REG))

    def test_whole_pattern(self):
        self.assertEqual(whole_pattern(MACHINE, LI), ("imm", 0, 255))
        self.assertEqual(whole_pattern(MACHINE, STORE), ("store", ("add", REG, LOW), BYTE))
        self.assertEqual(whole_pattern(MACHINE, tile("ld", ADRA)), ("load", ("add", REG, LOW)))
        self.assertEqual(whole_pattern(MACHINE, tile("nand", SRCI)), ("not", ("and", REG, BYTE)))
        self.assertEqual(whole_pattern(MACHINE, tile("use", SRCR)), REG)
        self.assertEqual(
            whole_pattern(KINDS, (4, (nested(2), nested(1)))),
            ("sub", ("add", REG, ("imm", 1, 1)), ("sub", REG, REG)),
        )

    def test_cost(self):
        self.assertEqual(tile_cost(MACHINE, LI), 1)
        self.assertEqual(tile_cost(MACHINE, STORE), 4)
        self.assertEqual(tile_cost(MACHINE, tile("st", ADRA, SRCR)), 5)
        self.assertEqual(tile_cost(MACHINE, SRCI), 0)
        self.assertEqual(tile_cost(KINDS, (4, (nested(5), nested(1)))), 3 + 5 + 1)
        self.assertEqual(tile_cost(KINDS, nested(90, 2)), 179)

    def test_many(self):
        seen = 0
        for seed in range(300):
            dice = Dice(seed)
            machine = dice.machine(8, 16)
            value = random_tile(dice, machine, dice.pick(("reg", "", "a")), 8)
            if value is not None:
                seen += 1
                self.assertTrue(is_tile(machine, machine[4][value[0]][1], value))
                self.assertEqual(whole_pattern(machine, value), planted(machine, value))
                self.assertEqual(leaves(machine, value), leaves_of(planted(machine, value)))
        self.assertGreater(seen, 80)

    def test_deep(self):
        # A chain of comparisons of deep tuples would itself go too deep, so the pattern is walked down.
        pattern = whole_pattern(KINDS, nested(90, 2))
        levels = 0
        while pattern[0] == "not":
            pattern = pattern[1]
            levels += 1
        self.assertEqual((levels, pattern), (89 * 5, REG))
        self.assertEqual(leaves(KINDS, nested(90, 0)), (REG,) + (("imm", 1, 1),) * 89)


class Operands(unittest.TestCase):
    def test_operands(self):
        for value in ((0, 0, -128), (3, 15, 127), (1, 7, 0)):
            self.assertIs(are_operands(MACHINE, STORE, value), True)
        for value in (
            None, 5, (), (0, 0), (0, 0, 0, 0), [0, 0, 0], (4, 0, 0), (-1, 0, 0), (0, 16, 0), (0, -1, 0),
            (0, 0, 128), (0, 0, -129), (True, 0, 0), (0, True, 0), (0, 0, False), (None, 0, 0), ("r0", 0, 0),
            (0, 0, "1"), (0, 0, (1,)), wrap(1, 100000), (0, 0, wrap(1, 100000)),
        ):
            self.assertIs(are_operands(MACHINE, STORE, value), False, value)
        self.assertTrue(are_operands(MACHINE, ADD, (3, 3)))
        self.assertFalse(are_operands(MACHINE, ADD, (3, 4)))
        self.assertTrue(are_operands(MACHINE, LI, (255,)))
        self.assertFalse(are_operands(MACHINE, LI, (256,)))

    def test_fits_imm(self):
        for word, least, most, expected in (
            (0, 0, 255, 0), (255, 0, 255, 255), (255, -128, 127, -1), (128, -128, 127, -128), (127, -128, 127, 127),
            (128, -127, 127, None), (5, 6, 7, None), (5, -251, -251, -251), (5, -251, 5, 5), (5, -251, 4, -251),
            (5, -250, 4, None), (6, 6, 7, 6), (7, 6, 7, 7), (8, 6, 7, None), (200, -56, 200, 200), (200, -56, 199,
            -56),
            (0, -256, -256, -256), (0, -256, -1, -256), (0, 1, 65536, None), (255, 256, 65536, None),
        ):
            self.assertEqual(fits_imm(8, word, least, most), expected, (word, least, most))
        self.assertEqual(fits_imm(16, 65535, -1, 0), -1)
        self.assertEqual(fits_imm(1, 1, -1, 0), -1)
        self.assertEqual(fits_imm(1, 1, -1, 1), 1)


class Ties(unittest.TestCase):
    def test_same(self):
        value = tile("sub2", SRCR)
        self.assertIs(ties_kept(MACHINE, value, 1, (1, 2)), True)
        self.assertIs(ties_kept(MACHINE, value, 2, (1, 2)), False)

    def test_result_and_needs(self):
        value = tile("mulq")
        self.assertTrue(ties_kept(MACHINE, value, 2, (2, 3)))
        for result, operands in ((1, (2, 3)), (2, (3, 3)), (2, (2, 2)), (3, (3, 2))):
            self.assertFalse(ties_kept(MACHINE, value, result, operands))

    def test_same_and_result(self):
        value = tile("shli")
        self.assertTrue(ties_kept(MACHINE, value, 3, (3, 5)))
        self.assertFalse(ties_kept(MACHINE, value, 3, (2, 3)))
        self.assertFalse(ties_kept(MACHINE, value, 2, (2, 3)))

    def test_no_result(self):
        self.assertTrue(ties_kept(MACHINE, tile("wr"), -1, (1,)))
        self.assertFalse(ties_kept(MACHINE, tile("wr"), -1, (0,)))
        self.assertTrue(ties_kept(MACHINE, STORE, -1, (0, 0, 0)))

    def test_none(self):
        self.assertTrue(ties_kept(MACHINE, ADD, 0, (1, 2)))

    def test_leaves_behind_tiles(self):
        # Leaf 1 of the rule is operand 1, 2 or 3, by the tile ahead of it.
        for deep in (1, 2, 3):
            operands = [1] * (deep + 2)
            value = (4, (nested(deep), nested(1)))
            self.assertFalse(ties_kept(KINDS, value, 0, tuple(operands)))
            operands[deep] = 0
            self.assertTrue(ties_kept(KINDS, value, 0, tuple(operands)))
            self.assertFalse(ties_kept(KINDS, value, 1, tuple(operands)))


class Value(unittest.TestCase):
    def value(self, pattern, operands, registers=(7, 200, 3, 0), memory=None, width=8):
        """The value of a tile of a rule with this pattern."""
        result = "" if pattern[0] in ("write", "store", "branch", "return") else "reg"
        machine = (width, 4, 0, (1, 1, 1), (("x", result, pattern, 1, 1, 0, ()),))
        return tile_value(machine, (0, ()), operands, list(registers), memory or [0] * 16)

    def test_ops(self):
        for op, expected in zip(PAIRS, (207, 63, 120, 0, 207, 207, 0, 0, 1, 0)):
            self.assertEqual(self.value((op, REG, REG), (0, 1)), expected, op)
        self.assertEqual(self.value(("sub", REG, REG), (1, 0)), 193)
        self.assertEqual(self.value(("shl", REG, REG), (0, 2)), 56)
        self.assertEqual(self.value(("shr", REG, REG), (1, 2)), 25)
        self.assertEqual(self.value(("equal", REG, REG), (1, 1)), 1)
        self.assertEqual([self.value((op, REG), (0,)) for op in SINGLES], [248, 249])

    def test_imm(self):
        pattern = ("imm", -32768, 65536)
        for operand, expected in ((0, 0), (255, 255), (256, 0), (-1, 255), (-128, 128), (-32768, 0), (65536, 0)):
            self.assertEqual(self.value(pattern, (operand,)), expected)
        self.assertEqual(self.value(pattern, (-2,), width=16), 65534)
        self.assertEqual(self.value(pattern, (65536,), width=16), 0)
        self.assertEqual(self.value(("add", REG, pattern), (0, -9)), 254)
        self.assertEqual(self.value(("sub", pattern, REG), (-1, 0)), 248)

    def test_load(self):
        memory = list(range(100, 116))
        for word, expected in ((0, 100), (15, 115), (16, 100), (200, 108), (255, 115)):
            self.assertEqual(self.value(("load", REG), (0,), (word,), memory), expected)
        self.assertEqual(self.value(("load", ("imm", -9, 9)), (-1,), (), memory), 115)

    def test_tops(self):
        self.assertEqual(self.value(("write", REG), (1,)), 200)
        self.assertEqual(self.value(("branch", ("less", REG, REG)), (0, 1)), 1)
        self.assertEqual(self.value(("return", ("neg", REG)), (2,)), 253)
        self.assertEqual(self.value(("store", REG, REG), (1, 2)), (200, 3))
        self.assertEqual(self.value(("store", ("add", REG, REG), ("imm", -3, 3)), (1, 1, -1)), (144, 255))

    def test_with_tiles(self):
        registers, memory = [5, 6, 7, 8], [n * n for n in range(16)]
        self.assertEqual(tile_value(MACHINE, STORE, (1, 15, -1), registers, memory), (21, 255))
        self.assertEqual(tile_value(MACHINE, tile("ld", ADRA), (3, 2), registers, memory), 100)
        self.assertEqual(tile_value(MACHINE, tile("ld", ADRR), (3,), registers, memory), 64)
        self.assertEqual(tile_value(MACHINE, tile("sub2", SRCI), (0, 7), registers, memory), 254)
        self.assertEqual(tile_value(MACHINE, tile("nand", SRCR), (0, 2), registers, memory), 250)
        self.assertEqual(tile_value(KINDS, (4, (nested(3), nested(2))), (0, 1, 1, 1, 0, 1), [50, 20], []),
            52 - (20 - 51))

    def test_deep_tiles(self):
        self.assertEqual(tile_value(KINDS, nested(90), (1,) + (1,) * 89, [0, 200], []), (200 + 89) % 256)
        self.assertEqual(tile_value(KINDS, nested(90, 2), (1,), [0, 200], []), 55)
        self.assertEqual(tile_value(KINDS, nested(89, 2), (1,), [0, 200], []), 200)

    def test_nothing_is_changed(self):
        machine, registers, memory = copy.deepcopy(MACHINE), [1, 2, 3, 4], list(range(16))
        value = tile("ld", ADRA)
        tile_value(machine, value, (1, 2), registers, memory)
        tile_value(machine, STORE, (1, 2, 3), registers, memory)
        ties_kept(machine, value, 1, (1, 2))
        self.assertEqual((machine, registers, memory), (MACHINE, [1, 2, 3, 4], list(range(16))))


if __name__ == "__main__":
    unittest.main()
