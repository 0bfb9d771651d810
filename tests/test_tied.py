"""[6.2] ties."""

import copy
import unittest

from code_samples import (
    ADD, LI, MULQ, RET, SHLI, SRCI, SRCR, WR, Plain, any_code, full_machine, looping_function, own_leaves, tile, untied,
    with_rules, words_for,
)
from leasttiles.codes import code_faults
from leasttiles.emit import emit, tied
from leasttiles.run import run
from samples import MACHINE, REG, Dice

END = ("go", 5)
SUB = tile("sub2", SRCR)


def machine_of(result, pattern, *ties):
    """A machine with one rule with ties, rule 0, and a kind "two" of operand with two registers."""
    two = ("two", "two", ("add", REG, REG), 1, 1, 0, ())
    return (8, 8, 8, (1, 1, 1), (("x", result, pattern, 1, 1, 0, ties), two))


class Ties(unittest.TestCase):
    def bound(self, machine, rows, expected, fixed, end=END, last=END):
        """Instructions over the params 0 to 3, and what they and the fixed names become."""
        code = ((0, 1, 2, 3), ((5, tuple(rows), end),))
        found = tied(machine, code)
        self.assertIs(type(found), tuple)
        self.assertEqual(found, ((code[0], ((5, tuple(expected), last),)), fixed))

    def test_same(self):
        self.bound(MACHINE, [("tile", SUB, 2, (0, 1))], [
            ("move", 100, 0), ("tile", SUB, 100, (100, 1)), ("move", 2, 100)], ())
        self.bound(MACHINE, [("tile", SUB, 0, (0, 0))], [
            ("move", 100, 0), ("tile", SUB, 100, (100, 0)), ("move", 0, 100)], ())

    def test_needs(self):
        self.bound(MACHINE, [("tile", WR, -1, (2,))], [("move", 100, 2), ("tile", WR, -1, (100,))], ((100, 1),))

    def test_result(self):
        machine = machine_of("reg", ("add", REG, REG), ("result", 3))
        self.bound(machine, [("tile", (0, ()), 1, (1, 2))], [
            ("tile", (0, ()), 100, (1, 2)), ("move", 1, 100)], ((100, 3),))

    def test_result_and_needs(self):
        self.bound(MACHINE, [("tile", MULQ, 0, (0, 1))], [
            ("move", 100, 0), ("move", 101, 1), ("tile", MULQ, 102, (100, 101)), ("move", 0, 102),
        ], ((100, 2), (101, 3), (102, 2)))

    def test_same_and_result(self):
        self.bound(MACHINE, [("tile", SHLI, 2, (1, 7))], [
            ("move", 100, 1), ("tile", SHLI, 100, (100, 7)), ("move", 2, 100)], ((100, 3),))

    def test_same_of_the_second_leaf(self):
        machine = machine_of("reg", ("add", REG, REG), ("same", 1))
        self.bound(machine, [("tile", (0, ()), 2, (0, 1))], [
            ("move", 100, 1), ("tile", (0, ()), 100, (0, 100)), ("move", 2, 100)], ())

    def test_a_leaf_named_twice(self):
        machine = machine_of("reg", ("add", REG, REG), ("needs", 0, 4), ("same", 0))
        self.bound(machine, [("tile", (0, ()), 2, (0, 1))], [
            ("move", 100, 0), ("tile", (0, ()), 100, (100, 1)), ("move", 2, 100)], ((100, 4),))

    def test_all_kinds(self):
        machine = machine_of("reg", ("add", ("add", REG, ("imm", 0, 9)), ("sub", REG, REG)),
                             ("needs", 3, 4), ("result", 5), ("same", 2), ("needs", 0, 6))
        self.bound(machine, [("tile", (0, ()), 2, (0, 7, 1, 3))], [
            ("move", 100, 0), ("move", 101, 1), ("move", 102, 3), ("tile", (0, ()), 101, (100, 7, 101, 102)),
            ("move", 2, 101)], ((100, 6), (101, 5), (102, 4)))

    def test_one_register_for_a_name(self):
        # The same pair is wanted twice, and then two registers for one name.
        machine = machine_of("reg", ("add", REG, REG), ("result", 4), ("needs", 1, 4), ("same", 1))
        self.bound(machine, [("tile", (0, ()), 2, (0, 1))], [
            ("move", 100, 1), ("tile", (0, ()), 100, (0, 100)), ("move", 2, 100)], ((100, 4),))
        machine = machine_of("reg", ("add", REG, REG), ("result", 3), ("needs", 1, 4), ("same", 1))
        self.bound(machine, [("tile", (0, ()), 2, (0, 1))], [
            ("move", 100, 1), ("tile", (0, ()), 100, (0, 100)), ("move", 2, 100)], ((100, 3), (100, 4)))

    def test_leaves_behind_tiles(self):
        machine = machine_of("reg", ("sub", ("nt", "two"), REG), ("needs", 1, 4), ("same", 1))
        made = (0, ((1, ()),))
        self.bound(machine, [("tile", made, 2, (0, 1, 3))], [
            ("move", 100, 3), ("tile", made, 100, (0, 1, 100)), ("move", 2, 100)], ((100, 4),))

    def test_one_operand_twice(self):
        self.bound(MACHINE, [("tile", MULQ, 1, (0, 0))], [
            ("move", 100, 0), ("move", 101, 0), ("tile", MULQ, 102, (100, 101)), ("move", 1, 102),
        ], ((100, 2), (101, 3), (102, 2)))

    def test_store(self):
        machine = machine_of("", ("store", REG, REG), ("needs", 1, 4))
        self.bound(machine, [("tile", (0, ()), -1, (0, 1))], [
            ("move", 100, 1), ("tile", (0, ()), -1, (0, 100))], ((100, 4),))

    def test_ends(self):
        self.bound(MACHINE, [("move", 2, 3)], [("move", 2, 3), ("move", 100, 2)], ((100, 0),),
                   ("return", RET, (2,)), ("return", RET, (100,)))
        machine = machine_of("", ("branch", ("less", REG, REG)), ("needs", 1, 2), ("needs", 0, 3))
        self.bound(machine, [], [("move", 100, 1), ("move", 101, 2)], ((100, 3), (101, 2)),
                   ("branch", (0, ()), (1, 2), 5, 7), ("branch", (0, ()), (100, 101), 5, 7))

    def test_names_in_order(self):
        code = ((0, 120), (
            (5, (("tile", WR, -1, (0,)), ("move", 7, 0), ("tile", SUB, 110, (0, 120)), ("tile", WR, -1, (110,))), END),
            (2, (("tile", MULQ, 3, (3, 110)),), ("return", RET, (3,))),
        ))
        self.assertEqual(tied(MACHINE, code), (((0, 120), (
            (5, (
                ("move", 121, 0), ("tile", WR, -1, (121,)), ("move", 7, 0), ("move", 122, 0),
                ("tile", SUB, 122, (122, 120)), ("move", 110, 122), ("move", 123, 110), ("tile", WR, -1, (123,)),
            ), END),
            (2, (
                ("move", 124, 3), ("move", 125, 110), ("tile", MULQ, 126, (124, 125)), ("move", 3, 126),
                ("move", 127, 3),
            ), ("return", RET, (127,))),
        )), ((121, 1), (123, 1), (124, 2), (125, 3), (126, 2), (127, 0))))

    def test_above_all_names(self):
        # Where the greatest name stands: among the params, operands, results, moves, and in ends.
        row = ("tile", WR, -1, (0,))
        for params, rows, end, name in (
            ((0, 300), [row], END, 301),
            ((0,), [("tile", ADD, 1, (0, 300)), row], END, 301),
            ((0,), [row, ("tile", ADD, 300, (0, 0))], END, 301),
            ((0,), [row, ("move", 300, 0)], END, 301),
            ((0,), [row, ("move", 0, 300)], END, 301),
            ((0,), [row], ("branch", tile("br", SRCR), (300,), 5, 5), 301),
            ((0,), [row, ("tile", LI, 99, (255,))], END, 100),
            ((99,), [row, ("tile", tile("br", SRCI), 1, (127,))], END, 100),
            ((0,), [row, ("tile", LI, 100, (255,))], END, 101),
            ((), [row], END, 100),
        ):
            found = tied(MACHINE, (params, ((5, tuple(rows), end),)))[0][1][0][1]
            self.assertIn(("move", name, 0), found)
            self.assertIn(("tile", WR, -1, (name,)), found)


class Whole(unittest.TestCase):
    def test_without_ties(self):
        for seed in range(30):
            dice = Dice(seed)
            machine = untied(full_machine(dice, 8, 8, 8))
            code = any_code(dice, machine, range(20))
            self.assertEqual(tied(machine, code), (code, ()))
        code = ((0,), ((5, (("move", 1, 0), ("tile", ADD, 2, (0, 1))), END),))
        self.assertEqual(tied(MACHINE, code), (code, ()))

    def test_the_same_runs(self):
        for seed in range(150):
            dice = Dice(seed)
            machine = full_machine(dice, dice.number(1, 16), 8, 8)
            code = any_code(dice, machine, [0, 1, 2, 3, 100, 101, 102])
            bound, _ = tied(machine, code)
            inputs = words_for(dice, machine[0], len(code[0]))
            self.assertEqual(Plain(machine, bound, inputs, 15).outcome(), Plain(machine, code, inputs, 15).outcome())

    def test_functions(self):
        for seed in range(60):
            dice = Dice(seed)
            machine = full_machine(dice, 8, 8, 8)
            function = looping_function(dice, 8, 4, dice.number(1, 5), 3)
            bound, _ = tied(machine, emit(machine, function))
            inputs = words_for(dice, 8, function[1])
            self.assertEqual(Plain(machine, bound, inputs, 15).outcome(), run(function, inputs, fuel=15))

    def test_ties_hold_but_for_registers(self):
        seen = {}
        for seed in range(100):
            dice = Dice(seed)
            machine = full_machine(dice, 8, 8, 8)
            (params, blocks), fixed = tied(machine, any_code(dice, machine, range(6)))
            self.assertEqual(list(fixed), sorted(set(fixed)))
            self.assertIs(type(fixed), tuple)
            for _, rows, end in blocks:
                for item in [*rows, end]:
                    if item[0] in ("tile", "branch", "return"):
                        self.check_ties(machine, item, fixed, seen)
        self.assertGreater(min(seen.get(word, 0) for word in ("same", "result", "needs")), 20)

    def check_ties(self, machine, item, fixed, seen):
        operands = list(item[3] if item[0] == "tile" else item[2])
        places = []
        for leaf in own_leaves(machine[4][item[1][0]][2]):
            places.append(operands[0])
            # No rule of these machines has a tie of a leaf behind a tile.
            operands = operands[1:]
        for tie in machine[4][item[1][0]][6]:
            seen[tie[0]] = seen.get(tie[0], 0) + 1
            if tie[0] == "same":
                self.assertEqual(item[2], places[tie[1]])
            elif tie[0] == "result":
                self.assertIn((item[2], tie[1]), fixed)
            else:
                self.assertIn((places[tie[1]], tie[2]), fixed)

    def test_nothing_is_changed(self):
        code = ((0, 1), ((5, (("tile", MULQ, 0, (0, 1)),), ("return", RET, (0,))),))
        machine, given = copy.deepcopy(MACHINE), copy.deepcopy(code)
        tied(machine, given)
        self.assertEqual((machine, given), (MACHINE, code))

    def test_fixed_wide_code_is_code(self):
        # Where names are registers already and stand where the ties want them, the code has no faults.
        code = ((), ((5, (("tile", MULQ, 0, (0, 1)),), END),))
        (params, blocks), fixed = tied(with_rules(MACHINE, registers=4), code)
        put = {**{name: name for name in range(4)}, **dict(fixed)}
        rows = [("tile", row[1], put[row[2]], tuple(put[n] for n in row[3])) if row[0] == "tile"
                else ("move", put[row[1]], put[row[2]]) for row in blocks[0][1]]
        self.assertEqual(code_faults(MACHINE, (params, ((5, tuple(rows), END),))), [])


if __name__ == "__main__":
    unittest.main()
