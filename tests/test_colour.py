"""[7.3] registers and frame cells for names."""

import copy
import unittest

from code_samples import (
    ADD, BRL, MULQ, NEG, SHLI, SRCR, WR, Plain, add, any_code, branch, full_machine, li, looping_function, names_of,
    ret, tile, untied, with_rules, words_for, write,
)
from leasttiles.codes import code_faults, reads
from leasttiles.colour import assign
from leasttiles.coderun import run_code
from leasttiles.emit import emit, tied
from leasttiles.errors import NoRegisters, TilesError
from leasttiles.live import live_at
from leasttiles.machines import leaves
from leasttiles.run import run
from leasttiles.schedule import in_order, list_schedule
from leasttiles.text import read_function
from samples import ADDER, COUNTDOWN, MACHINE, REG, Dice

FREE = untied(MACHINE)


def machine_with(registers, frame, machine=FREE):
    return with_rules(machine, registers=registers, frame=frame)


def operands_of(machine, item):
    """How many register operands an instruction or end has."""
    if item[0] in ("move", "go"):
        return int(item[0] == "move")
    return len([leaf for leaf in leaves(machine, item[1]) if leaf == REG])


def least_room(machine, wide):
    """The least numbers of registers and frame cells with which there is a way."""
    items = [item for _, rows, end in wide[1] for item in [*rows, end]]
    most = max(operands_of(machine, item) for item in items)
    return max(most + 3, len(wide[0]) + 1), len(names_of(machine, wide))


def scheduled(machine, wide):
    """The wide code with its instructions in the order of the list's schedules."""
    return (wide[0], tuple((label, tuple(in_order(rows, list_schedule(machine, rows))), end)
                           for label, rows, end in wide[1]))


class Assigned(unittest.TestCase):
    def assigned(self, machine, wide, fixed=(), dice=None):
        """The code and the places, which are as they should be."""
        found = assign(machine, wide, fixed)
        self.assertIs(type(found), tuple)
        code, places = found
        self.assertEqual(code_faults(machine, code), [])
        self.assertEqual([block[0] for block in code[1]], [block[0] for block in wide[1]])
        self.assertEqual(len(code[0]), len(wide[0]))
        self.check_places(machine, wide, fixed, places)
        self.check_fixed(machine, wide, dict(fixed), code)
        dice = dice or Dice(1)
        for _ in range(5):
            self.check_runs(machine, wide, code, places, words_for(dice, machine[0], len(wide[0])))
        return code, places

    def check_places(self, machine, wide, fixed, places):
        self.assertIs(type(places), tuple)
        live = live_at(machine, wide)
        expected = sorted({name for _, names in live[1:] for name in names if name < 100})
        self.assertEqual([v for v, _ in places], expected)
        for v, (word, number) in places:
            self.assertIn(word, ("reg", "cell"))
            self.assertIn(number, range(machine[1] if word == "reg" else machine[2]))
            if v in dict(fixed):
                self.assertEqual((word, number), ("reg", dict(fixed)[v]))
        for _, names in live[1:]:
            used = [dict(places)[name] for name in names if name < 100]
            self.assertEqual(len(set(used)), len(used))

    def check_fixed(self, machine, wide, fixed, code):
        """Tiles stand in their order, and fixed names in their registers."""
        for name, r in zip(wide[0], code[0]):
            self.assertEqual(fixed.get(name, r), r)
        for (_, rows, end), (_, placed, last) in zip(wide[1], code[1]):
            first = [row[1:] for row in rows if row[0] == "tile"]
            second = [row[1:] for row in placed if row[0] == "tile"]
            if end[0] != "go":
                first.append((end[1], -1, end[2]))
                second.append((last[1], -1, last[2]))
            self.assertEqual([row[0] for row in first], [row[0] for row in second])
            for (made, d, operands), (_, r, seats) in zip(first, second):
                self.assertEqual(fixed.get(d, r), r)
                for leaf, name, seat in zip(leaves(machine, made), operands, seats):
                    self.assertEqual(seat, fixed.get(name, seat) if leaf == REG else name)

    def check_runs(self, machine, wide, code, places, inputs):
        first, second = Plain(machine, wide, inputs, 25), Plain(machine, code, inputs, 25)
        self.assertEqual(second.outcome(), first.outcome())
        self.assertEqual(run_code(machine, code, inputs, fuel=25), first.outcome())
        live = dict(live_at(machine, wide))
        for (label, names, _), (_, registers, cells) in zip(first.states, second.states):
            if label != wide[1][0][0]:
                for v, (word, number) in places:
                    if v in live[label]:
                        table = registers if word == "reg" else cells
                        self.assertEqual(table.get(number, 0), names.get(v, 0), (label, v))

    def fails(self, machine, wide, fixed=(), label=None):
        with self.assertRaises(NoRegisters) as caught:
            assign(machine, wide, fixed)
        self.assertIsInstance(caught.exception, TilesError)
        self.assertIn(caught.exception.label, [block[0] for block in wide[1]])
        if label is not None:
            self.assertEqual(caught.exception.label, label)


class Simple(Assigned):
    def test_adder(self):
        code, places = self.assigned(machine_with(4, 0), emit(FREE, ADDER))
        self.assertEqual(places, ())
        self.assertEqual(len(code[1][0][1]), 1)

    def test_countdown(self):
        wide, fixed = tied(MACHINE, emit(MACHINE, COUNTDOWN))
        for registers, frame in ((4, 8), (4, 2), (5, 0), (16, 0), (16, 64)):
            code, places = self.assigned(machine_with(registers, frame, MACHINE), wide, fixed)
            self.assertEqual([v for v, _ in places], [0, 1])
            found = run_code(machine_with(registers, frame, MACHINE), code, (3,), fuel=99)
            self.assertEqual(found, ([3, 5, 6], ("return", 6), 9))

    def test_moves_without_need(self):
        # Where registers suffice, names that are moved to one another share them.
        code, _ = self.assigned(machine_with(4, 0), ((0,), ((5, (("move", 100, 0), ("move", 1, 100)), ret(1)),)))
        self.assertEqual(code[1][0][1], ())

    def test_names_with_0_at_the_entry(self):
        wide = ((0, 1), ((5, (add(2, 0, 3), write(3), li(3), add(2, 2, 120)), ("go", 6)),
                         (6, (write(2), add(4, 4, 0), add(1, 1, 5)), branch(3, 6, 7)), (7, (write(4),), ret(1))))
        for registers, frame in ((16, 0), (8, 2), (5, 9), (4, 9), (3, 9)):
            self.assigned(machine_with(registers, frame), wide)

    def test_words_without_use(self):
        self.assigned(machine_with(3, 0), ((0, 1), ((5, (li(2), li(3), add(2, 0, 1), ("move", 4, 0)), ret(0)),)))
        self.assigned(machine_with(3, 1), ((0, 1, 2), ((5, (li(3), add(3, 0, 1), add(3, 2, 1)), ret(0)),)))

    def test_equal_words_part(self):
        rows = (("move", 1, 0), ("move", 2, 0), add(1, 1, 1), write(2), add(2, 2, 1), write(0), write(1), write(2))
        for registers in (3, 4, 16):
            self.assigned(machine_with(registers, 0), ((0,), ((5, rows, ret(0)),)))
        self.assigned(machine_with(2, 3), ((0,), ((5, rows, ret(0)),)))

    def test_places_in_cells(self):
        names = range(9)
        rows = tuple(li(name, 20 + name) for name in names)
        wide = ((), ((5, rows, ("go", 6)), (6, tuple(add(name, name, 0) for name in names[1:]), branch(1, 6, 7)),
                     (7, tuple(write(name) for name in names), ret(8))))
        seen = set()
        for registers, frame in ((5, 9), (5, 5), (4, 6), (3, 9), (2, 9), (10, 0), (9, 1)):
            _, places = self.assigned(machine_with(registers, frame), wide)
            seen |= {place[0] for _, place in places}
        self.assertEqual(seen, {"reg", "cell"})
        self.fails(machine_with(4, 4), wide)
        self.fails(machine_with(8, 0), wide)

    def test_rings_at_an_end(self):
        swap = (("move", 100, 0), ("move", 0, 1), ("move", 1, 100))
        wide = ((0, 1, 2), ((5, (), ("go", 6)), (6, (*swap, write(0)), branch(2, 6, 7)), (7, (write(1),), ret(0))))
        for registers, frame in ((16, 0), (4, 0), (3, 1), (3, 3)):
            self.assigned(machine_with(registers, frame), wide)
        turn = (("move", 100, 0), ("move", 0, 1), ("move", 1, 2), ("move", 2, 3), ("move", 3, 100))
        wide = ((0, 1, 2, 3), ((5, (), ("go", 6)), (6, turn, branch(2, 6, 7)), (7, (write(1), write(3)), ret(0))))
        for registers, frame in ((16, 0), (5, 0), (4, 1), (4, 9)):
            self.assigned(machine_with(registers, frame), wide)

    def test_ends_that_lead_twice(self):
        # Names that are live behind different targets have different places, too.
        wide = ((0,), ((5, (li(1), li(2, 9)), branch(0, 6, 7)), (6, (write(1),), ("go", 8)), (7, (write(2),), ("go", 8)),
                       (8, (), ("branch", BRL, (0, 3), 6, 7))))
        for registers, frame in ((16, 0), (5, 0), (3, 9), (2, 9)):
            self.assigned(machine_with(registers, frame), wide)

    def test_a_loop_to_the_entry(self):
        wide = ((0, 1), ((5, (add(2, 2, 0), write(2)), ("branch", BRL, (2, 1), 5, 6)), (6, (), ret(2))))
        for registers, frame in ((16, 0), (4, 0), (3, 9)):
            self.assigned(machine_with(registers, frame), wide)

    def test_a_loop_to_the_entry_with_inputs_that_are_not_read(self):
        # The inputs take three registers, so only one is left for the names that have 0 at first.
        wide = ((0, 1, 2), ((5, (add(3, 3, 4), add(4, 4, 3), write(3), li(3)), branch(3, 5, 6)), (6, (), ret(4))))
        self.assigned(machine_with(4, 9), wide)
        self.assigned(machine_with(5, 0), wide)
        self.assigned(machine_with(3, 9), wide)
        self.assigned(machine_with(5, 0), wide, ((1, 3), (3, 0)))
        self.fails(machine_with(5, 9), wide, ((1, 3), (3, 3)), 5)

    def test_cells_of_names_that_follow_one_another(self):
        # 3 and 4 die where 5 and 6 are already live, though no block begins with both pairs.
        for registers in (2, 3):
            for many in (2, 3):
                old, new = range(10, 10 + many), range(20, 20 + many)
                busy = tuple(add(name, name, other) for name in (1, 2) for other in (1, 2) for _ in range(3))
                wide = ((), (
                    (4, tuple(li(name, name) for name in (1, 2, *old)), ("go", 5)),
                    (5, busy, ("go", 6)),
                    (6, (*[li(name, name) for name in new], *[write(name) for name in old]), ("go", 7)),
                    (7, busy, ("go", 8)),
                    (8, tuple(write(name) for name in (1, 2, *new)), ret(1)),
                ))
                for frame in range(2 * many + 2, 2 * many + 6):
                    _, places = self.assigned(machine_with(registers, frame), wide)
                    self.assertIn("cell", [place[0] for _, place in places])

    def test_few_cells(self):
        found = 0
        for seed in range(300):
            dice = Dice(seed)
            registers, frame = dice.number(2, 4), dice.number(1, 3)
            names = range(100, 100 + registers + frame - dice.number(0, 1))
            rows = [li(name, name) for name in names]
            for _ in range(30):
                d, a = dice.pick(names), dice.pick(names)
                rows.append(dice.pick([write(a), write(d), ("tile", NEG, d, (a,)), ("tile", NEG, d, (d,)), li(d, a)]))
            wide = ((), ((5, tuple(rows), ret(names[0])),))
            try:
                assign(machine_with(registers, frame), wide, ())
            except NoRegisters:
                continue
            found += 1
            self.assigned(machine_with(registers, frame), wide)
        self.assertGreater(found, 100)

    def test_names_from_100_on_through_blocks(self):
        wide = ((0,), ((5, (li(100), li(1)), ("go", 6)), (6, (add(100, 100, 0), add(1, 1, 100)), branch(0, 6, 7)),
                       (7, (write(100),), ret(1))))
        for registers, frame in ((16, 0), (3, 9), (2, 9)):
            _, places = self.assigned(machine_with(registers, frame), wide)
            self.assertEqual([v for v, _ in places], [0, 1])

    def test_blocks_that_are_not_reached(self):
        wide = ((0,), ((5, (), ret(0)), (6, (write(3), write(1)), ("go", 6)), (7, (), ret(2))))
        _, places = self.assigned(machine_with(3, 0), wide)
        self.assertEqual([v for v, _ in places], [1, 2, 3])

    def test_no_way(self):
        self.fails(machine_with(2, 9), ((0, 1, 2), ((5, (), ("go", 5)),)), (), 5)
        rows = (li(1), li(2), li(3))
        wide = ((), ((5, (), ("go", 8)), (8, rows, ("go", 9)), (9, (write(1), write(2), write(3)), ret(1))))
        self.fails(machine_with(2, 0), wide)
        wide = ((0, 1), ((5, (), ("go", 8)), (8, (li(100), write(0), write(1), write(100)), ("go", 9)), (9, (), ret(0))))
        self.fails(machine_with(2, 0), wide, (), 8)
        self.assigned(machine_with(2, 2), wide)

    def test_nothing_is_changed(self):
        wide, fixed = tied(MACHINE, emit(MACHINE, COUNTDOWN))
        given = copy.deepcopy((MACHINE, wide, fixed))
        assign(*given)
        self.assertEqual(given, (MACHINE, wide, fixed))


class Fixed(Assigned):
    def test_params_and_results(self):
        wide = ((0, 1), ((5, (add(100, 0, 1), write(100)), ret(100)),))
        code, _ = self.assigned(machine_with(4, 0), wide, ((0, 2), (1, 0), (100, 3)))
        self.assertEqual(code, ((2, 0), ((5, (("tile", ADD, 3, (2, 0)), ("tile", WR, -1, (3,))), ret(3)),)))

    def test_several_in_one_register(self):
        rows = (add(100, 0, 1), add(101, 0, 100), add(102, 100, 101), add(103, 102, 102))
        wide = ((0, 1), ((5, rows, ret(103)),))
        for fixed in (((100, 2), (102, 2)), ((0, 2), (101, 2), (103, 2)), ((100, 1), (101, 3), (102, 1), (103, 3)),
                      ((0, 3), (102, 3), (103, 3))):
            for registers, frame in ((4, 0), (8, 8)):
                self.assigned(machine_with(registers, frame), wide, fixed)

    def test_one_register_at_a_time(self):
        # Both are live at once, but an instruction reads but one of them.
        rows = (li(100), li(101), write(100), write(101), write(100))
        wide = ((), ((5, rows, ret(101)),))
        for registers, frame in ((3, 0), (2, 1), (16, 9)):
            self.assigned(machine_with(registers, frame), wide, ((100, 1), (101, 1)))

    def test_no_way(self):
        wide = ((0, 1), ((3, (), ("go", 5)), (5, (add(100, 0, 1),), ret(100))))
        self.fails(machine_with(8, 8), wide, ((0, 2), (1, 2)))
        self.fails(machine_with(8, 8), wide, ((100, 2), (100, 3)))
        wide = ((), ((3, (li(100), li(101)), ("go", 5)), (5, (add(102, 100, 101),), ret(102))))
        self.fails(machine_with(8, 8), wide, ((100, 2), (101, 2)))
        wide = ((), ((3, (li(100), li(101), add(102, 100, 101)), ret(102)),))
        self.fails(machine_with(8, 8), wide, ((100, 2), (101, 2)), 3)

    def test_equal_words_in_one_register(self):
        rows = (("move", 100, 0), ("move", 101, 0), add(102, 100, 101), write(0))
        self.assigned(machine_with(3, 0), ((0,), ((5, rows, ret(102)),)), ((100, 1), (101, 1)))

    def test_variables_at_the_beginning_of_blocks(self):
        wide = ((0,), ((5, (li(1), li(2)), ("go", 6)), (6, (add(2, 2, 1), add(1, 0, 1)), branch(1, 6, 7)),
                       (7, (write(2),), ret(0))))
        for fixed in (((1, 0),), ((0, 3), (2, 1)), ((0, 1), (1, 2), (2, 3))):
            for registers, frame in ((4, 0), (4, 5), (16, 0)):
                self.assigned(machine_with(registers, frame), wide, fixed)
        self.fails(machine_with(4, 9), wide, ((1, 0), (2, 0)))

    def test_an_end_takes_a_register(self):
        # The register that the end's operand is fixed to is no place of a variable behind it.
        wide = ((0, 1), ((5, (("move", 100, 0),), branch(100, 6, 7)), (6, (write(0), write(1)), ("go", 7)),
                         (7, (write(1),), ret(0))))
        for r in range(3):
            code, places = self.assigned(machine_with(3, 0), wide, ((100, r),))
            self.assertEqual(code[1][0][2][2], (r,))
            self.assertNotIn(("reg", r), [place for _, place in places])

    def test_the_register_of_an_end_among_others(self):
        # Of the registers that fixed names want, one is wanted by the end itself.
        wide = ((0, 1), ((5, (li(101), write(101), ("move", 100, 0)), branch(100, 6, 7)),
                         (6, (write(0), write(1)), ("go", 7)), (7, (write(1),), ret(0))))
        for first, second in ((1, 2), (2, 1), (0, 1), (1, 0), (0, 2), (2, 0)):
            code, places = self.assigned(machine_with(3, 0), wide, ((100, first), (101, second)))
            self.assertEqual(code[1][0][2][2], (first,))
            self.assertEqual(sorted(place for _, place in places), [("reg", r) for r in range(3) if r != first])

    def test_an_end_and_a_variable_in_one_register(self):
        fixed = ((1, 2), (100, 2))
        behind = ((6, (write(1),), ("go", 7)), (7, (), ret(1)))
        wide = ((0,), ((5, (li(1), li(100)), branch(100, 6, 7)), *behind))
        self.fails(machine_with(8, 8), wide, fixed, 5)
        # Here they have one word.
        wide = ((0,), ((5, (li(1), ("move", 100, 1)), branch(100, 6, 7)), *behind))
        self.assigned(machine_with(8, 8), wide, fixed)
        self.assigned(machine_with(8, 8), wide, ((1, 2),))

    def test_moves_without_need(self):
        wide, fixed = tied(MACHINE, emit(MACHINE, ADDER))
        self.assertEqual(len(wide[1][0][1]), 2)
        code, _ = self.assigned(MACHINE, wide, fixed)
        self.assertEqual(len(code[1][0][1]), 1)

    def test_each_tie(self):
        function = read_function(
            "width 8\nparams 2\nblock 0\nv2 = (v0 * (v1 * v0))\nwrite v2\nv3 = (v2 << 3)\nv0 = (v0 - v3)\n"
            "write (v0 * v0)\nif v1 1 2\nblock 1\nwrite v0\nwrite v1\nv1 = (v1 - 1)\nv3 = (v3 * v1)\nif v1 1 2\n"
            "block 2\nwrite v3\nreturn (v1 * (v2 << 1))\n")
        wide, fixed = tied(MACHINE, emit(MACHINE, function))
        used = {row[1] for _, rows, _ in wide[1] for row in rows if row[0] == "tile"}
        self.assertTrue({MULQ, SHLI, WR, tile("sub2", SRCR)} <= used)
        for order in (wide, scheduled(MACHINE, wide)):
            for registers, frame in ((4, 8), (5, 8), (6, 4), (16, 0)):
                machine = machine_with(registers, frame, MACHINE)
                code, _ = self.assigned(machine, order, fixed)
                for inputs in ((3, 2), (0, 0), (255, 1)):
                    self.assertEqual(run_code(machine, code, inputs, fuel=9), run(function, inputs, fuel=9))

    def test_ties_of_ends(self):
        rules = [rule for rule in MACHINE[4] if rule[0] not in ("br", "brl")]
        rules.append(("brt", "", ("branch", ("less", REG, REG)), 2, 1, 0, (("needs", 0, 1), ("needs", 1, 0))))
        machine = with_rules(MACHINE, rules=tuple(rules))
        function = read_function(
            "width 8\nparams 3\nblock 0\nif (v0 < v1) 1 2\nblock 1\nv0 = (v0 + v2)\nwrite v0\nif (v1 < v0) 2 1\n"
            "block 2\nwrite v2\nreturn (v0 + v1)\n")
        wide, fixed = tied(machine, emit(machine, function))
        for registers, frame in ((4, 8), (5, 2), (16, 0), (3, 8)):
            here = machine_with(registers, frame, machine)
            code, _ = self.assigned(here, wide, fixed)
            self.assertEqual(run_code(here, code, (3, 9, 4), fuel=9), run(function, (3, 9, 4), fuel=9))


class Many(Assigned):
    def test_functions(self):
        found = {True: 0, False: 0}
        for seed in range(300):
            dice = Dice(seed)
            registers, frame = dice.pick([2, 3, 4, 5, 6, 8, 16]), dice.pick([0, 1, 2, 4, 8, 64])
            machine = full_machine(dice, dice.pick([1, 4, 8, 16]), registers, frame, dice.number(0, 1) == 1)
            function = looping_function(dice, machine[0], dice.pick([2, 4, 8, 12]), dice.number(1, 6), dice.number(1, 4))
            wide, fixed = tied(machine, emit(machine, function))
            if dice.number(0, 1):
                wide = scheduled(machine, wide)
            try:
                assign(machine, wide, fixed)
            except NoRegisters as error:
                self.assertIn(error.label, [block[0] for block in function[2]])
                found[False] += 1
                continue
            found[True] += 1
            code, _ = self.assigned(machine, wide, fixed, dice)
            inputs = words_for(dice, machine[0], function[1])
            self.assertEqual(run_code(machine, code, inputs, fuel=30), run(function, inputs, fuel=30))
        self.assertGreater(found[True], 150)

    def test_ties_with_enough_room(self):
        # Each leaf needs a register of its own, so that with many cells only contradictions leave no way.
        for seed in range(100):
            dice = Dice(seed)
            machine = full_machine(dice, 8, dice.pick([5, 6, 8, 16]), 64)
            function = looping_function(dice, 8, 6, dice.number(1, 5), 3)
            if function[1] > machine[1]:
                continue
            wide, fixed = tied(machine, emit(machine, function))
            if len(dict(fixed)) < len(fixed):
                self.fails(machine, wide, fixed)
                continue
            self.assigned(machine, wide, fixed, dice)
            self.assigned(machine, scheduled(machine, wide), fixed, dice)

    def test_wide_code_of_any_kind(self):
        found = {True: 0, False: 0}
        for seed in range(300):
            dice = Dice(seed)
            machine = full_machine(dice, 8, dice.pick([2, 3, 4, 6, 8, 16]), dice.pick([0, 1, 4, 16, 64]))
            names = dice.source.sample(range(100), dice.number(1, 6)) + list(range(100, 100 + dice.number(0, 5)))
            wide, fixed = tied(machine, any_code(dice, machine, names, again=dice.number(0, 3) == 0))
            if dice.number(0, 1):
                more = {dice.pick(names): dice.number(0, machine[1] - 1) for _ in range(dice.number(1, 3))}
                fixed = tuple(sorted([*fixed, *more.items()]))
            try:
                assign(machine, wide, fixed)
            except NoRegisters as error:
                self.assertIn(error.label, [block[0] for block in wide[1]])
                found[False] += 1
                continue
            found[True] += 1
            self.assigned(machine, wide, fixed, dice)
        self.assertGreater(found[True], 150)

    def test_with_just_enough_room(self):
        for seed in range(200):
            dice = Dice(seed)
            machine = untied(full_machine(dice, 8, 16, 64))
            if dice.number(0, 1):
                function = looping_function(dice, 8, dice.pick([2, 6, 12]), dice.number(1, 6), dice.number(1, 4))
                wide = emit(machine, function)
            else:
                names = dice.source.sample(range(140), dice.number(1, 14))
                wide = any_code(dice, machine, names, blocks=6, size=15, again=False)
            registers, frame = least_room(machine, wide)
            if dice.number(0, 1):
                wide = scheduled(machine, wide)
            self.assigned(machine_with(registers, frame, machine), wide, (), dice)

    def test_many_params(self):
        function = read_function("width 8\nparams 6\nblock 0\ngo 1\nblock 1\nv0 = (v0 + v1)\nv1 = (v1 + v2)\n"
                                 "v2 = (v2 + v3)\nv3 = (v3 + v4)\nv4 = (v4 + v5)\nv5 = (v5 + v0)\nwrite v5\n"
                                 "if (v0 < v5) 1 2\nblock 2\nreturn (v0 + (v1 + (v2 + (v3 + v4))))\n")
        wide = emit(FREE, function)
        for registers, frame in ((7, len(names_of(FREE, wide))), (7, 2), (8, 0), (16, 0)):
            code, _ = self.assigned(machine_with(registers, frame), wide)
            inputs = (1, 2, 3, 4, 5, 6)
            self.assertEqual(run_code(FREE, code, inputs, fuel=20), run(function, inputs, fuel=20))
        self.fails(machine_with(5, 64), wide, (), 0)

    def test_reads_of_the_sample(self):
        self.assertEqual(reads(FREE, ("tile", NEG, 0, (5,))), (5,))


if __name__ == "__main__":
    unittest.main()
