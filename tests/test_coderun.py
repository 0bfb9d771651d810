"""[5.3] runs of code."""

import copy
import unittest

from code_samples import ADD, BRL, LI, NEG, RET, SRCI, SRCR, WR, Plain, any_code, full_machine, tile, untied, words_for
from leasttiles.coderun import run_code
from leasttiles.codes import code_faults
from samples import MACHINE, REG, Dice

FREE = untied(MACHINE)
END = ("return", RET, (0,))
ST, LD = tile("st", tile("adra"), SRCI), tile("ld", tile("adra"))


def one(rows, end=END, params=()):
    return (params, ((0, tuple(rows), end),))


# Counts register 0 down to 0 and writes each word.
LOOP = ((0,), (
    (3, (("tile", LI, 2, (1,)),), ("go", 8)),
    (8, (), ("branch", tile("br", SRCR), (0,), 1, 9)),
    (1, (("tile", WR, -1, (0,)), ("tile", tile("sub2", SRCR), 0, (0, 2))), ("go", 8)),
    (9, (), ("return", RET, (2,))),
))


class Instructions(unittest.TestCase):
    def written(self, rows, inputs=(), params=(), machine=FREE):
        """The words that registers 0 to 3 have behind the instructions."""
        rows = [*rows, *[("tile", WR, -1, (r,)) for r in range(4)]]
        return run_code(machine, one(rows, params=params), inputs, fuel=1)[0]

    def test_what_is_returned(self):
        found = run_code(FREE, one((("tile", WR, -1, (1,)),), params=(1, 0)), (5, 6), fuel=9)
        self.assertIs(type(found), tuple)
        self.assertIs(type(found[0]), list)
        self.assertEqual(found, ([5], ("return", 6), 1))

    def test_params(self):
        self.assertEqual(self.written((), (5, 6, 7), (3, 0, 2)), [6, 0, 7, 5])
        self.assertEqual(self.written((), (5,), (1,)), [0, 5, 0, 0])
        self.assertEqual(self.written(()), [0, 0, 0, 0])

    def test_tile(self):
        self.assertEqual(self.written([("tile", ADD, 2, (0, 1))], (250, 9), (0, 1)), [250, 9, 3, 0])
        self.assertEqual(self.written([("tile", LI, 3, (255,))]), [0, 0, 0, 255])
        self.assertEqual(self.written([("tile", tile("sub2", SRCI), 1, (0, -3))], (5,), (0,)), [5, 8, 0, 0])

    def test_reads_first(self):
        self.assertEqual(self.written([("tile", ADD, 0, (0, 0))], (5,), (0,)), [10, 0, 0, 0])
        self.assertEqual(self.written([("tile", NEG, 1, (1,))], (5,), (1,)), [0, 251, 0, 0])
        self.assertEqual(self.written([("tile", ADD, 1, (0, 1)), ("tile", ADD, 0, (0, 1))], (5, 6), (0, 1)),
                         [16, 11, 0, 0])
        self.assertEqual(self.written([("move", 1, 1)], (5,), (1,)), [0, 5, 0, 0])
        load = [("tile", ST, -1, (1, 3, 7)), ("tile", LD, 1, (1, 3))]
        self.assertEqual(self.written(load), [0, 7, 0, 0])

    def test_moves(self):
        self.assertEqual(self.written([("move", 2, 0), ("move", 0, 1)], (5, 6), (0, 1)), [6, 6, 5, 0])

    def test_spill_and_fill(self):
        rows = [("spill", 7, 0), ("spill", 0, 1), ("fill", 2, 7), ("fill", 3, 0), ("fill", 0, 5)]
        self.assertEqual(self.written(rows, (5, 6), (0, 1)), [0, 6, 5, 6])
        self.assertEqual(self.written([("fill", 1, 7), ("fill", 0, 0)], (5, 6), (0, 1)), [0, 0, 0, 0])
        rows = [("spill", 7, 0), ("spill", 7, 3), ("fill", 1, 7)]
        self.assertEqual(self.written(rows, (5, 6), (0, 1)), [5, 0, 0, 0])

    def test_frame_and_memory_apart(self):
        rows = [("spill", 3, 0), ("tile", LD, 1, (2, 3)), ("tile", ST, -1, (2, 3, 9)), ("fill", 3, 3)]
        self.assertEqual(self.written(rows, (5,), (0,)), [5, 0, 0, 5])

    def test_memory(self):
        for address, operand, place in ((0, 15, 15), (1, 15, 0), (250, 15, 9), (255, 0, 15), (16, 2, 2)):
            rows = [("tile", ST, -1, (0, operand, -3)), ("tile", LI, 0, (place,)), ("tile", LD, 1, (0, 0)),
                    ("tile", LI, 0, (place + 16,)), ("tile", LD, 2, (0, 0)), ("tile", LD, 3, (0, 1))]
            self.assertEqual(self.written(rows, (address,), (0,)), [place + 16, 253, 253, 0])

    def test_memory_is_new_in_each_run(self):
        code = one([("tile", LD, 1, (0, 3)), ("tile", WR, -1, (1,)), ("tile", ST, -1, (0, 3, 9)), ("fill", 1, 3),
                    ("tile", WR, -1, (1,)), ("spill", 3, 0)], params=(0,))
        for _ in range(2):
            self.assertEqual(run_code(FREE, code, (4,), fuel=1), ([0, 0], ("return", 4), 1))

    def test_stores_read_first(self):
        # Stores at its own address what stood there.
        rules = (*MACHINE[4], ("stl", "", ("store", REG, ("add", ("load", REG), ("load", REG))), 1, 1, 0, ()))
        machine = (*MACHINE[:4], rules)
        made = (len(rules) - 1, ())
        rows = [("tile", ST, -1, (0, 2, 5)), ("tile", LI, 1, (2,)), ("tile", made, -1, (1, 1, 1)),
                ("tile", made, -1, (1, 1, 1)), ("tile", LD, 1, (1, 0)), ("tile", WR, -1, (1,))]
        self.assertEqual(run_code(machine, one(rows), (), fuel=1)[0], [20])


class Ways(unittest.TestCase):
    def test_branch(self):
        end = ("branch", BRL, (0, 1), 4, 5)
        code = ((0, 1), ((9, (), end), (4, (), ("return", RET, (0,))), (5, (), ("return", RET, (1,)))))
        self.assertEqual(run_code(FREE, code, (3, 7), fuel=5), ([], ("return", 3), 2))
        self.assertEqual(run_code(FREE, code, (7, 3), fuel=5), ([], ("return", 3), 2))
        self.assertEqual(run_code(FREE, code, (7, 7), fuel=5), ([], ("return", 7), 2))
        always = ((), ((9, (), ("branch", tile("br", SRCI), (-1,), 4, 5)), *code[1][1:]))
        self.assertEqual(run_code(FREE, always, (), fuel=5), ([], ("return", 0), 2))

    def test_fuel(self):
        for fuel in range(8):
            writes = [3, 2, 1][:len([steps for steps in (3, 5, 7) if steps <= fuel])]
            self.assertEqual(run_code(FREE, LOOP, (3,), fuel=fuel), (writes, ("none",), fuel))
        self.assertEqual(run_code(FREE, LOOP, (3,), fuel=8), ([3, 2, 1], ("none",), 8))
        for fuel in (9, 10, 10 ** 12):
            self.assertEqual(run_code(FREE, LOOP, (3,), fuel=fuel), ([3, 2, 1], ("return", 1), 9))

    def test_fuel_0_and_1(self):
        code = one((("tile", WR, -1, (0,)),), params=(0,))
        self.assertEqual(run_code(FREE, code, (4,), fuel=0), ([], ("none",), 0))
        self.assertEqual(run_code(FREE, code, (4,), fuel=1), ([4], ("return", 4), 1))

    def test_loop_to_the_entry(self):
        code = ((0,), ((5, (("tile", ADD, 0, (0, 0)), ("spill", 0, 0)), ("branch", BRL, (0, 1), 5, 5)),))
        self.assertEqual(run_code(FREE, code, (1,), fuel=7), ([], ("none",), 7))

    def test_long_runs(self):
        found = run_code((16, *FREE[1:]), LOOP, (20000,), fuel=50000)
        self.assertEqual(found[0], list(range(20000, 0, -1)))
        self.assertEqual(found[1:], (("return", 1), 40003))


class Arguments(unittest.TestCase):
    def test_fuel_by_keyword_only(self):
        with self.assertRaises(TypeError):
            run_code(FREE, LOOP, (3,), 9)

    def test_nothing_is_changed(self):
        machine, code, inputs = copy.deepcopy(FREE), copy.deepcopy(LOOP), (3,)
        run_code(machine, code, inputs, fuel=20)
        self.assertEqual((machine, code, inputs), (FREE, LOOP, (3,)))

    def test_against_a_plain_run(self):
        ended = 0
        for seed in range(300):
            dice = Dice(seed)
            machine = full_machine(dice, dice.number(1, 16), dice.number(2, 8), 5, ties=False)
            code = any_code(dice, machine, range(machine[1]), range(5))
            self.assertEqual(code_faults(machine, code), [])
            inputs = words_for(dice, machine[0], len(code[0]))
            fuel = dice.number(0, 20)
            found = run_code(machine, code, inputs, fuel=fuel)
            self.assertEqual(found, Plain(machine, code, inputs, fuel).outcome())
            ended += found[1] != ("none",)
        self.assertGreater(ended, 60)

    def test_names_for_registers(self):
        code = ((140,), ((0, (("tile", ADD, 500, (140, 140)), ("move", 99, 500)), ("return", RET, (99,))),))
        self.assertEqual(run_code(FREE, code, (9,), fuel=1), ([], ("return", 18), 1))
        wider = (8, 501, *FREE[2:])
        self.assertEqual(run_code(wider, code, (9,), fuel=1), ([], ("return", 18), 1))


if __name__ == "__main__":
    unittest.main()
