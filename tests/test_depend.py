"""[6.3] dependences."""

import copy
import unittest

from code_samples import ADRA, ADRR, SRCI, SRCR, any_code, any_instruction, full_machine, own_leaves, tile_of_name
from leasttiles.depend import depends, gives, needs
from samples import MACHINE, REG, Dice

# Each rule with another latency; kinds of operands with loads and without.
TIMED = (8, 16, 8, (1, 1, 1), (
    ("li", "reg", ("imm", 0, 255), 1, 2, 0, ()),
    ("add", "reg", ("add", REG, ("nt", "src")), 1, 3, 0, ()),
    ("srcr", "src", REG, 1, 1, 0, ()),
    ("srcl", "src", ("load", REG), 1, 1, 0, ()),
    ("srcx", "src", ("neg", ("nt", "src")), 1, 1, 0, ()),
    ("ld", "reg", ("load", ("nt", "src")), 1, 4, 1, ()),
    ("st", "", ("store", REG, ("nt", "src")), 1, 5, 1, ()),
    ("wr", "", ("write", ("nt", "src")), 1, 6, 2, ()),
    ("ret", "", ("return", REG), 1, 1, 0, ()),
))
REGS, LOADS = tile_of_name(TIMED, "srcr"), tile_of_name(TIMED, "srcl")


def timed(name, *tiles):
    return tile_of_name(TIMED, name, *tiles)


def li(d):
    return ("tile", timed("li"), d, (1,))


def add(d, a, b):
    return ("tile", timed("add", REGS), d, (a, b))


def write(a):
    return ("tile", timed("wr", REGS), -1, (a,))


def store(a, b):
    return ("tile", timed("st", REGS), -1, (a, b))


def load(d, a):
    return ("tile", timed("ld", REGS), d, (a,))


def plain_effects(machine, row):
    """What a row does besides registers and cells, by the rules of its tiles."""
    if row[0] != "tile":
        return set()
    found, waiting = set(), [row[1]]
    while waiting:
        k, tiles = waiting.pop()
        found |= ops_of(machine[4][k][2])
        waiting.extend(tiles)
    return found & {"write", "store", "load"}


def ops_of(pattern):
    if pattern[0] in ("reg", "imm", "nt"):
        return set()
    return {pattern[0]}.union(*[ops_of(part) for part in pattern[1:]])


def plain_depends(machine, rows):
    """The dependences by the words of the document."""
    found = []
    for j, later in enumerate(rows):
        for i, earlier in enumerate(rows[:j]):
            distances = []
            if set(gives(earlier)) & set(needs(machine, later)):
                distances.append(machine[4][earlier[1][0]][4] if earlier[0] == "tile" else 1)
            if set(gives(later)) & (set(gives(earlier)) | set(needs(machine, earlier))):
                distances.append(1)
            both = [plain_effects(machine, earlier), plain_effects(machine, later)]
            if any(word in both[0] & both[1] for word in ("write", "store")):
                distances.append(1)
            if any("store" in both[at] and "load" in both[1 - at] for at in (0, 1)):
                distances.append(1)
            if distances:
                found.append((i, j, max(distances)))
    return sorted(found)


class NeedsAndGives(unittest.TestCase):
    def test_each(self):
        for row, need, give in (
            (li(3), (), (("reg", 3),)),
            (add(3, 5, 4), (("reg", 4), ("reg", 5)), (("reg", 3),)),
            (add(3, 3, 3), (("reg", 3),), (("reg", 3),)),
            (write(7), (("reg", 7),), ()),
            (store(9, 8), (("reg", 8), ("reg", 9)), ()),
            (load(0, 1), (("reg", 1),), (("reg", 0),)),
            (("move", 4, 5), (("reg", 5),), (("reg", 4),)),
            (("spill", 4, 5), (("reg", 5),), (("cell", 4),)),
            (("fill", 4, 5), (("cell", 5),), (("reg", 4),)),
            (("tile", timed("wr", timed("srcx", REGS)), -1, (112,)), (("reg", 112),), ()),
        ):
            self.assertEqual(needs(TIMED, row), need, row)
            self.assertEqual(gives(row), give, row)
            self.assertEqual((type(needs(TIMED, row)), type(gives(row))), (tuple, tuple))


class Depends(unittest.TestCase):
    def has(self, rows, *triples):
        found = depends(TIMED, rows)
        self.assertIs(type(found), list)
        self.assertEqual(found, list(triples), rows)
        self.assertEqual(depends(TIMED, list(rows)), found)

    def test_none(self):
        self.has(())
        for row in (li(1), add(1, 1, 1), write(1), store(1, 2), load(1, 1), ("move", 1, 1), ("spill", 1, 1)):
            self.has((row,))
        self.has((li(1), li(2), load(3, 3), load(4, 4), write(5), ("spill", 1, 6), ("fill", 7, 2)))

    def test_reads_what_was_given(self):
        self.has((li(1), add(2, 1, 3)), (0, 1, 2))
        self.has((add(1, 3, 3), add(2, 3, 1)), (0, 1, 3))
        self.has((load(1, 2), write(1)), (0, 1, 4))
        self.has((("move", 1, 2), write(1)), (0, 1, 1))
        self.has((("fill", 1, 2), write(1)), (0, 1, 1))
        self.has((("spill", 2, 1), ("fill", 1, 2)), (0, 1, 1))
        self.has((li(1), ("move", 2, 1)), (0, 1, 2))
        self.has((li(1), ("spill", 2, 1)), (0, 1, 2))
        self.has((("spill", 1, 1), ("fill", 2, 2)))
        self.has((li(1), add(2, 1, 1)), (0, 1, 2))

    def test_gives_what_was_read(self):
        self.has((add(1, 2, 3), li(2)), (0, 1, 1))
        self.has((write(1), li(1)), (0, 1, 1))
        self.has((("move", 1, 2), ("move", 2, 3)), (0, 1, 1))
        self.has((("spill", 1, 2), ("fill", 2, 3)), (0, 1, 1))
        self.has((("fill", 1, 2), ("spill", 2, 3)), (0, 1, 1))

    def test_gives_what_was_given(self):
        self.has((li(1), li(1)), (0, 1, 1))
        self.has((add(1, 2, 3), ("move", 1, 4)), (0, 1, 1))
        self.has((("spill", 1, 2), ("spill", 1, 3)), (0, 1, 1))
        self.has((("fill", 1, 2), ("fill", 1, 3)), (0, 1, 1))

    def test_several_reasons(self):
        self.has((add(1, 2, 3), add(1, 1, 2)), (0, 1, 3))
        self.has((add(1, 2, 3), add(2, 1, 3)), (0, 1, 3))
        self.has((load(1, 2), store(1, 1)), (0, 1, 4))
        self.has((("fill", 1, 2), ("spill", 2, 1)), (0, 1, 1))

    def test_across_others(self):
        self.has((li(1), li(1), write(1)), (0, 1, 1), (0, 2, 2), (1, 2, 2))
        self.has((li(1), add(2, 1, 1), write(2), write(1)), (0, 1, 2), (0, 3, 2), (1, 2, 3), (2, 3, 1))

    def test_writes_stores_and_loads(self):
        self.has((write(1), write(2)), (0, 1, 1))
        self.has((store(1, 2), store(3, 4)), (0, 1, 1))
        self.has((store(1, 2), load(3, 4)), (0, 1, 1))
        self.has((load(3, 4), store(1, 2)), (0, 1, 1))
        self.has((load(1, 2), load(3, 4)))
        self.has((write(1), store(2, 3)))
        self.has((write(1), load(2, 3)))
        self.has((load(2, 3), write(1)))
        self.has((("spill", 1, 2), load(3, 4), ("fill", 5, 6), store(7, 8)), (1, 3, 1))

    def test_loads_within_tiles(self):
        deep = ("tile", timed("add", timed("srcx", timed("srcx", LOADS))), 1, (2, 3))
        self.has((store(4, 5), deep), (0, 1, 1))
        self.has((deep, store(4, 5)), (0, 1, 1))
        self.has((deep, deep), (0, 1, 1))
        writes = ("tile", timed("wr", LOADS), -1, (1,))
        self.has((store(4, 5), writes, write(7), store(4, 5)), (0, 1, 1), (0, 3, 1), (1, 2, 1), (1, 3, 1))
        stores = ("tile", timed("st", LOADS), -1, (1, 2))
        self.has((stores, stores, load(3, 4)), (0, 1, 1), (0, 2, 1), (1, 2, 1))
        self.has((load(3, 4), stores), (0, 1, 1))

    def test_latency_of_the_outermost_rule(self):
        machine = (*TIMED[:4], tuple((*rule[:4], 9, *rule[5:]) if rule[0] in ("srcr", "srcx") else rule
                                     for rule in TIMED[4]))
        rows = (("tile", timed("add", timed("srcx", REGS)), 1, (2, 3)), write(1))
        self.assertEqual(depends(machine, rows), [(0, 1, 3)])

    def test_wide_names(self):
        self.has((add(400, 100, 101), write(400), ("move", 100, 400)), (0, 1, 3), (0, 2, 3))

    def test_of_the_sample(self):
        rows = (
            ("tile", tile_of_name(MACHINE, "ld", ADRA), 1, (2, 3)),
            ("tile", tile_of_name(MACHINE, "st", ADRR, SRCI), -1, (1, 5)),
            ("tile", tile_of_name(MACHINE, "nand", SRCR), 3, (1, 2)),
            ("tile", tile_of_name(MACHINE, "wr"), -1, (3,)),
        )
        self.assertEqual(depends(MACHINE, rows), [(0, 1, 4), (0, 2, 4), (2, 3, 2)])

    def test_random_rows(self):
        for seed in range(150):
            dice = Dice(seed)
            machine = full_machine(dice, 8, 8, 5)
            names = range(dice.pick([3, 8, 30]))
            rows = tuple(any_instruction(dice, machine, names, range(3)) for _ in range(dice.number(0, 14)))
            self.assertEqual(depends(machine, rows), plain_depends(machine, rows))

    def test_long_rows(self):
        rows = tuple(add(at + 1, at, at) for at in range(20000))
        self.assertEqual(depends(TIMED, rows), [(at, at + 1, 3) for at in range(19999)])

    def test_nothing_is_changed(self):
        dice = Dice(1)
        machine = full_machine(dice, 8, 8, 5)
        rows = any_code(dice, machine, range(8), range(5), 1, 20)[1][0][1]
        given = copy.deepcopy((machine, rows))
        depends(*given)
        self.assertEqual(given, (machine, rows))

    def test_own_leaves(self):
        self.assertEqual(own_leaves(TIMED[4][1][2]), [REG, ("nt", "src")])


if __name__ == "__main__":
    unittest.main()
