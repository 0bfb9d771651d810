"""[5.1], [5.2] the form of code and its faults, [5.4] its cost, and what instructions read and change."""

import copy
import unittest

from code_samples import (
    ADD, ADRA, ADRR, BRL, LI, MULQ, RET, SHLI, SRCI, SRCR, WR, any_code, full_machine, tile, untied,
)
from leasttiles.codes import changes, code_faults, cost_of, reads
from leasttiles.machines import tile_cost
from samples import MACHINE, Dice, wrap

END = ("return", RET, (0,))
ST, LD, SUB, BR, NAND = tile("st", ADRA, SRCI), tile("ld", ADRA), tile("sub2", SRCR), tile("br", SRCI), tile("nand", SRCR)

RIGHT = (
    (1, 0),
    (
        (7, (
            ("tile", LI, 3, (255,)), ("tile", ADD, 2, (0, 1)), ("move", 1, 2), ("move", 0, 0), ("spill", 0, 3),
            ("spill", 7, 0), ("fill", 3, 7), ("fill", 0, 0), ("tile", WR, -1, (1,)), ("tile", ST, -1, (0, 15, -128)),
            ("tile", MULQ, 2, (2, 3)), ("tile", SUB, 1, (1, 3)), ("tile", LD, 0, (3, 0)),
        ), ("branch", BRL, (0, 3), 0, 9999)),
        (0, (), ("branch", BR, (-5,), 7, 7)),
        (9999, (), ("go", 12)),
        (12, (), END),
    ),
)


def with_row(*rows):
    """Code with these instructions."""
    return ((), ((5, rows, END),))


def with_end(end):
    return ((), ((5, (), end), (6, (), END)))


class Faults(unittest.TestCase):
    def has(self, value, *codes, machine=MACHINE):
        self.assertEqual(code_faults(machine, value), [(5, code) for code in codes], value)

    def test_none(self):
        self.assertEqual(code_faults(MACHINE, RIGHT), [])
        self.assertEqual(code_faults(MACHINE, ((), ((0, (), END),))), [])
        self.assertEqual(code_faults(MACHINE, ((0, 1, 2, 3), ((0, (), END),))), [])
        self.assertEqual(code_faults(MACHINE, ((), ((0, (), ("go", 0)),))), [])

    def test_form(self):
        block = (5, (), END)
        for value in (
            None, 0, "", (), [], ((),), ((), ()), ((), (), ()), [(), (block,)], ([], (block,)), ((), [block]),
            ((), (block, None)), ((), block), ((), (block[:2],)), ((), ((*block, ()),)), ((), ([5, (), END],)),
            ((), ((5, [], END),)), ((), ((5, (), list(END)),)), ((), ((5, (), None),)), ((), ((5, None, END),)),
            ((), (("5", (), END),)), ((), ((None, (), END),)), ((), ((True, (), END),)), ((), ((False, (), END),)),
            ((), ((-1, (), END),)), ((), ((10000, (), END),)), ((0, 0), (block,)), ((0, 1, 0), (block,)),
            ((4,), (block,)), ((-1,), (block,)), ((True,), (block,)), ((False, 1), (block,)), (("0",), (block,)),
            (((0,),), (block,)), ((None,), (block,)), (0, (block,)), ({}, (block,)), wrap(1, 100000),
            (wrap(1, 100000), (block,)), ((), wrap(1, 100000)), ((), (wrap(1, 100000),)),
            ((), ((wrap(1, 100000), (), END),)), ((wrap(1, 100000),), (block,)),
        ):
            self.assertEqual(code_faults(MACHINE, value), [(-1, "form")])

    def test_params_of_the_machine(self):
        for registers in (2, 16):
            machine = (8, registers, *MACHINE[2:])
            for param, right in ((registers - 1, True), (registers, False)):
                value = ((param,), ((5, (), ("go", 5)),))
                self.assertEqual(code_faults(machine, value), [] if right else [(-1, "form")])

    def test_form_alone(self):
        self.assertEqual(code_faults(MACHINE, ((9,), ((5, (None,), ("go", 8)), (5, (), ())))), [(-1, "form")])

    def test_labels(self):
        for label in (0, 9999):
            self.assertEqual(code_faults(MACHINE, ((), ((label, (), ("go", label)),))), [])
            self.assertEqual(code_faults(MACHINE, ((), ((label, (), ("branch", BR, (0,), label, label)),))), [])
        self.has(with_end(("go", 0)), "target")
        self.has(with_end(("go", 9999)), "target")
        for label in (-1, 10000, True, False, None, "6", (6,), 10 ** 30):
            self.has(with_end(("go", label)), "end")
            self.has(with_end(("branch", BR, (0,), label, 6)), "end")
            self.has(with_end(("branch", BR, (0,), 6, label)), "end")

    def test_twice(self):
        self.assertEqual(code_faults(MACHINE, ((), ((5, (), END), (5, (), END)))), [(5, "twice")])
        self.assertEqual(
            code_faults(MACHINE, ((), ((5, (), END), (0, (), END), (5, (), END), (0, (), END), (5, (), END)))),
            [(0, "twice"), (5, "twice")],
        )

    def test_targets(self):
        self.has(with_end(("go", 7)), "target")
        self.has(with_end(("branch", BR, (0,), 6, 7)), "target")
        self.has(with_end(("branch", BR, (0,), 7, 5)), "target")
        self.has(with_end(("branch", BR, (0,), 8, 7)), "target")
        self.has(with_end(("branch", BR, (0,), 5, 6)))

    def test_not_nearly_an_instruction(self):
        for row in (
            None, 0, "move", (), ("move",), ("move", 1), ("move", 1, 2, 3), ["move", 1, 2], ("moved", 1, 2),
            ("go", 5), END, ("branch", BR, (0,), 5, 6), (None, 1, 2), (("move",), 1, 2), ("", 1, 2), wrap(1, 100000),
            (wrap(1, 100000), 1, 2), ("move", wrap(1, 100000), 0), ("tile",), ("tile", ADD), ("tile", ADD, 0),
            ("tile", ADD, 0, (0, 1), 0), ["tile", ADD, 0, (0, 1)], ("tile", ADD, (0, 1), 0), ("Tile", ADD, 0, (0, 1)),
        ):
            self.has(with_row(row), "instruction")

    def test_moves(self):
        for number in (-1, 4, True, False, None, "1", (1,), 10 ** 30):
            for row in (("move", number, 1), ("move", 1, number), ("spill", 1, number), ("fill", number, 1)):
                self.has(with_row(row), "instruction")
        for cell in (-1, 8, True, False, None, "1", (1,)):
            self.has(with_row(("spill", cell, 1)), "instruction")
            self.has(with_row(("fill", 1, cell)), "instruction")
        for row in (("spill", 7, 3), ("fill", 3, 7), ("move", 3, 3)):
            self.has(with_row(row))

    def test_frames(self):
        for frame in (0, 1, 64):
            machine = (8, 4, frame, *MACHINE[3:])
            for cell in (0, frame - 1, frame):
                expected = () if 0 <= cell < frame else ("instruction",)
                self.has(with_row(("spill", cell, 0)), *expected, machine=machine)
                self.has(with_row(("fill", 0, cell)), *expected, machine=machine)

    def test_tiles_and_results(self):
        for made, operands in ((LI, (1,)), (ADD, (0, 1)), (LD, (0, 1))):
            for d in (0, 3):
                self.has(with_row(("tile", made, d, operands)))
            for d in (-1, 4, True, False, None, "1", (1,), -2):
                self.has(with_row(("tile", made, d, operands)), "instruction")
        for made, operands in ((tile("st", ADRR, SRCR), (0, 1)), (ST, (0, 1, 2))):
            self.has(with_row(("tile", made, -1, operands)))
            for d in (0, 1, 3, True, None, -2, "-1", (-1,)):
                self.has(with_row(("tile", made, d, operands)), "instruction")

    def test_tiles_of_another_result(self):
        for made, operands in ((SRCR, (1,)), (SRCI, (1,)), (ADRA, (1, 1)), (BR, (1,)), (BRL, (1, 2)), (RET, (0,))):
            for d in (-1, 0):
                self.has(with_row(("tile", made, d, operands)), "instruction")

    def test_nearly_tiles(self):
        for made in (
            None, 0, (), (1,), [1, ()], (1, []), (True, ()), (-1, ()), (99, ()), (1, (LI,)), (2, ()), (2, (LI,)),
            (2, (ADRR,)), wrap(1, 100000), (2, wrap(1, 100000)), "add",
        ):
            self.has(with_row(("tile", made, 0, (0, 1))), "instruction")
            self.has(with_end(("branch", made, (0, 1), 5, 6)), "end")

    def test_nearly_operands(self):
        for operands in (
            None, 0, (), (0,), (0, 1, 2), [0, 1], (0, 4), (-1, 0), (0, True), (False, 0), (0, None), (0, "1"),
            (0, (1,)), wrap(1, 100000), (0, wrap(1, 100000)),
        ):
            self.has(with_row(("tile", ADD, 0, operands)), "instruction")
            self.has(with_end(("branch", BRL, operands, 5, 6)), "end")
        for operand in (-129, 128, True, None):
            self.has(with_row(("tile", ST, -1, (0, 1, operand))), "instruction")
            self.has(with_end(("branch", BR, (operand,), 5, 6)), "end")
        for operand in (-128, 127):
            self.has(with_row(("tile", ST, -1, (0, 1, operand))))
            self.has(with_end(("branch", BR, (operand,), 5, 6)))

    def test_ends(self):
        for end in (
            (), ("go",), ("go", 5, 6), ("stop", 5), ("return",), ("return", RET), ("return", RET, (0,), 5),
            ("branch", BR, (0,)), ("branch", BR, (0,), 5), ("branch", BR, (0,), 5, 6, 6), ("branch", BR, 5, 6, (0,)),
            ("return", BR, (0,)), ("branch", RET, (0,), 5, 6), ("return", WR, (1,)), ("branch", WR, (1,), 5, 6),
            ("return", LI, (0,)), ("branch", ADD, (0, 1), 5, 6), ("return", SRCI, (0,)), ("move", 1, 2),
            ("tile", ADD, 0, (0, 1)), ("go", 5, ()), (None, 5), (("go",), 5), wrap(1, 100000), ("go", wrap(1, 100000)),
            ("return", wrap(1, 100000), (0,)), ("return", RET, wrap(1, 100000)), ("return", RET, (4,)),
            ("return", RET, [0]), ("return", RET, (False,)), ("return", list(RET), (0,)),
        ):
            self.has(with_end(end), "end")

    def test_ties(self):
        for row in (
            ("tile", SUB, 1, (2, 1)), ("tile", MULQ, 1, (2, 3)), ("tile", MULQ, 2, (1, 3)), ("tile", MULQ, 2, (2, 2)),
            ("tile", SHLI, 3, (1, 4)), ("tile", SHLI, 1, (1, 4)), ("tile", SHLI, 1, (3, 4)), ("tile", WR, -1, (0,)),
        ):
            self.has(with_row(row), "tie")
            self.has(with_row(row), machine=untied(MACHINE))
        self.has(with_row(("tile", SHLI, 3, (3, 4))))
        self.has(((), ((5, (), ("return", RET, (1,))),)), "tie")
        self.has(((), ((5, (), ("return", RET, (1,))),)), machine=untied(MACHINE))
        # What is no instruction or end has no ties.
        self.has(with_row(("tile", MULQ, 1, (4, 4))), "instruction")
        self.has(((), ((5, (), ("return", RET, (9,))),)), "end")

    def test_ties_of_a_branch(self):
        rules = (*MACHINE[4], ("brn", "", ("branch", ("equal", ("reg",), ("nt", "src"))), 1, 1, 0, (("needs", 0, 2),)))
        machine = (*MACHINE[:4], rules)
        made = (len(rules) - 1, (SRCR,))
        self.has(((), ((5, (), ("branch", made, (2, 1), 5, 5)),)), machine=machine)
        self.has(((), ((5, (), ("branch", made, (1, 2), 5, 5)),)), "tie", machine=machine)
        self.has(((), ((5, (), ("branch", made, (1, 2), 5, 9)),)), "target", "tie", machine=machine)

    def test_several(self):
        value = ((), (
            (9, (None, ("tile", WR, -1, (0,)), None, ("tile", WR, -1, (2,))), ("go", 8)),
            (3, (("move", 4, 4),), ("stop",)),
            (9, (), ("return", RET, (1,))),
        ))
        self.assertEqual(code_faults(MACHINE, value), [
            (3, "end"), (3, "instruction"), (9, "instruction"), (9, "target"), (9, "tie"), (9, "twice"),
        ])

    def test_very_deep(self):
        deep = (1, ())
        for _ in range(100000):
            deep = (2, (deep,))
        self.has(with_row(("tile", deep, 0, (0,))), "instruction")
        self.has(with_row(*[("tile", deep, 0, (0,))] * 3, ("move", 9, 9)), "instruction")

    def test_many_blocks(self):
        blocks = tuple((label, (), ("go", (label + 1) % 5000)) for label in range(5000))
        self.assertEqual(code_faults(MACHINE, ((), blocks)), [])

    def test_random_code(self):
        for seed in range(100):
            dice = Dice(seed)
            machine = full_machine(dice, 8, dice.number(2, 16), 5, ties=False)
            code = any_code(dice, machine, range(machine[1]), range(5))
            self.assertEqual(code_faults(machine, code), [])

    def test_nothing_is_changed(self):
        code, machine = copy.deepcopy(RIGHT), copy.deepcopy(MACHINE)
        code_faults(machine, code)
        cost_of(machine, code)
        self.assertEqual((code, machine), (RIGHT, MACHINE))


class Costs(unittest.TestCase):
    def test_each(self):
        for row, cost in (
            (("tile", LI, 0, (1,)), 1), (("tile", ADD, 0, (0, 0)), 1), (("tile", SUB, 0, (0, 0)), 3),
            (("tile", tile("sub2", SRCI), 0, (0, 0)), 2), (("tile", LD, 0, (0, 0)), 4), (("tile", ST, -1, (0, 0, 0)), 4),
            (("tile", tile("st", ADRR, SRCR), -1, (0, 0)), 5), (("tile", WR, -1, (1,)), 2), (("move", 0, 1), 1),
            (("spill", 0, 1), 3), (("fill", 0, 1), 2), (("move", 0, 0), 1),
        ):
            self.assertEqual(cost_of(MACHINE, with_row(row)), cost + 1, row)

    def test_ends(self):
        for end, cost in ((("go", 6), 0), (END, 1), (("branch", BR, (0,), 5, 6), 2), (("branch", tile("br", SRCR),
                          (0,), 5, 6), 3), (("branch", BRL, (0, 1), 5, 6), 2)):
            self.assertEqual(cost_of(MACHINE, with_end(end)), cost + 1)

    def test_whole(self):
        expected = 1 + 1 + 1 + 1 + 3 + 3 + 2 + 2 + 2 + 4 + 5 + 3 + 4 + 2 + 2 + 0 + 1
        self.assertEqual(cost_of(MACHINE, RIGHT), expected)
        costs = (8, 4, 8, (10, 20, 30), MACHINE[4])
        self.assertEqual(cost_of(costs, RIGHT), expected + 2 * 9 + 2 * 17 + 2 * 28)

    def test_deep_tiles(self):
        rules = (("deep", "a", ("not", ("nt", "a")), 2, 1, 0, ()), ("leaf", "a", ("reg",), 1, 1, 0, ()),
                 ("take", "reg", ("nt", "a"), 3, 1, 0, ()), ("ret", "", ("return", ("reg",)), 0, 1, 0, ()))
        machine = (8, 4, 0, (1, 1, 1), rules)
        deep = (1, ())
        for _ in range(88):
            deep = (0, (deep,))
        code = ((), ((0, (("tile", (2, (deep,)), 0, (3,)),), ("return", (3, ()), (0,))),))
        self.assertEqual(code_faults(machine, code), [])
        self.assertEqual(cost_of(machine, code), 3 + 88 * 2 + 1)
        self.assertEqual(reads(machine, code[1][0][1][0]), (3,))

    def test_random_code(self):
        for seed in range(50):
            dice = Dice(seed)
            machine = full_machine(dice, 8, 8, 5)
            code = any_code(dice, machine, range(8), range(5))
            total = 0
            for _, rows, end in code[1]:
                for item in [*rows, end]:
                    if item[0] in ("move", "spill", "fill"):
                        total += {"move": 1, "spill": 2, "fill": 2}[item[0]]
                    elif item[0] != "go":
                        total += tile_cost(machine, item[1])
            self.assertEqual(cost_of(machine, code), total)


class ReadsAndChanges(unittest.TestCase):
    def test_each(self):
        for item, read, changed in (
            (("tile", LI, 2, (3,)), (), 2),
            (("tile", ADD, 0, (3, 1)), (1, 3), 0),
            (("tile", ADD, 3, (3, 3)), (3,), 3),
            (("tile", SUB, 1, (2, 0)), (0, 2), 1),
            (("tile", tile("sub2", SRCI), 1, (2, 0)), (2,), 1),
            (("tile", LD, 1, (2, 3)), (2,), 1),
            (("tile", ST, -1, (3, 2, 1)), (3,), -1),
            (("tile", tile("st", ADRA, SRCR), -1, (3, 2, 1)), (1, 3), -1),
            (("tile", WR, -1, (1,)), (1,), -1),
            (("move", 2, 1), (1,), 2),
            (("move", 2, 2), (2,), 2),
            (("spill", 5, 3), (3,), -1),
            (("fill", 3, 5), (), 3),
            (("go", 5), (), -1),
            (("branch", BRL, (3, 0), 5, 6), (0, 3), -1),
            (("branch", BRL, (2, 2), 5, 6), (2,), -1),
            (("branch", BR, (3,), 5, 6), (), -1),
            (("return", RET, (2,)), (2,), -1),
            (("tile", NAND, 107, (300, 5)), (5, 300), 107),
        ):
            self.assertEqual(reads(MACHINE, item), read, item)
            self.assertIs(type(reads(MACHINE, item)), tuple)
            self.assertEqual(changes(item), changed, item)


if __name__ == "__main__":
    unittest.main()
