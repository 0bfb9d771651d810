"""The back end and what it leaves out ([11.1], [11.2], [7.3], [8.4], [0.1] point 1)."""

import unittest

from build_samples import all_words, built, roomy
from code_samples import full_machine, looping_function, tile_of_name, untied, with_rules, words_for
from leasttiles.backend import build, trim
from leasttiles.checker import check, refusal
from leasttiles.codes import code_faults
from leasttiles.coderun import run_code
from leasttiles.covers import uncovered
from leasttiles.emit import emit, tied
from leasttiles.errors import NoRegisters, Uncovered
from leasttiles.live import live_at
from leasttiles.run import run
from leasttiles.schedule import in_order, list_schedule
from samples import COUNTDOWN, MACHINE, REG, Dice
from test_checker import CERTIFICATE, CODE, ENTRY, FUNCTION, LAST, LOOP, PLAIN, branch, move, number, ret, tile, v


def plain_trim(machine, function, code, certificate):
    """Trimming by the words of the document: check is asked of the whole code each time."""
    params, blocks = code
    for at in range(len(blocks)):
        for k in range(len(blocks[at][1]) - 1, -1, -1):
            label, rows, end = blocks[at]
            fewer = (*blocks[:at], (label, rows[:k] + rows[k + 1:], end), *blocks[at + 1:])
            if check(machine, function, (params, fewer), certificate):
                blocks = fewer
    return params, blocks


def any_work(dice, ties=None):
    """A random machine with a random function that it covers."""
    ties = dice.number(0, 1) == 1 if ties is None else ties
    width = dice.pick([1, 2, 8, 16])
    machine = full_machine(dice, width, dice.pick([4, 5, 6, 16]), dice.pick([4, 20, 64]), ties)
    return machine, looping_function(dice, width, dice.number(1, 8), dice.number(1, 6), dice.number(1, 4))


class Build(unittest.TestCase):
    def see(self, dice, machine, function, code, certificate):
        """See that the code has no faults, is taken, and runs as the function does."""
        self.assertEqual(code_faults(machine, code), [])
        self.assertIsNone(refusal(machine, function, code, certificate))
        width, params, _ = function
        rows = all_words(width, params) if width * params <= 4 else [words_for(dice, width, params) for _ in range(6)]
        for words in rows:
            for fuel in (0, 1, 2, 3, 7, 20):
                self.assertEqual(run_code(machine, code, words, fuel=fuel), run(function, words, fuel=fuel))

    def test_random_ones(self):
        counts = {"built": 0, "none": 0, "ordered": 0, "cells": 0}
        for seed in range(150):
            dice = Dice(seed)
            machine, function = any_work(dice)
            first = ((), ())
            for ordered in (True, False):
                try:
                    wanted = built(machine, function, ordered)
                except NoRegisters as error:
                    with self.assertRaises(NoRegisters) as caught:
                        build(machine, function, ordered=ordered)
                    self.assertEqual(caught.exception.label, error.label)
                    counts["none"] += 1
                    continue
                found = build(machine, function, ordered=ordered)
                self.assertEqual(found, wanted)
                self.see(dice, machine, function, *found)
                counts["built"] += 1
                counts["cells"] += any(place[0] == "cell" for _, row in found[1] for _, place in row)
                if ordered:
                    self.assertEqual(build(machine, function), found)
                    first = found
                else:
                    counts["ordered"] += found[0] != first[0]
        self.assertGreater(min(counts.values()), 15, counts)
        self.assertGreater(counts["built"], 200)

    def test_the_certificate(self):
        for seed in range(60):
            dice = Dice(seed)
            machine, function = any_work(dice, False)
            machine = with_rules(machine, registers=12, frame=64)
            wide, _ = tied(machine, emit(machine, function))
            for ordered in (True, False):
                code, certificate = build(machine, function, ordered=ordered)
                self.assertEqual([block[0] for block in code[1]], [block[0] for block in function[2]])
                found = {label: tuple(sorted({variable for variable, _ in row})) for label, row in certificate}
                self.assertEqual(found, dict(live_at(machine, wide)[1:]))
                self.assertEqual([label for label, _ in certificate], sorted(found))
                for _, row in certificate:
                    self.assertEqual(list(row), sorted(row))
                    self.assertEqual(len({place for _, place in row}), len(row))

    def test_the_order(self):
        # With many registers and no ties the code has the instructions of its blocks in the order of the schedule.
        for seed in range(60):
            dice = Dice(seed)
            machine = untied(full_machine(dice, 8, 16, 64))
            rows = looping_function(dice, 8, 4, 1, 2)
            function = (8, rows[1], ((0, rows[2][0][1], rows[2][0][2]),))
            wide, _ = tied(machine, emit(machine, function))
            _, body, _ = wide[1][0]
            for ordered, wanted in ((False, body), (True, in_order(body, list_schedule(machine, body)))):
                code, _ = build(machine, function, ordered=ordered)
                tiles = [(row[0], row[1]) for row in code[1][0][1] if row[0] == "tile"]
                self.assertEqual(tiles, [(row[0], row[1]) for row in wanted if row[0] == "tile"])

    def test_samples(self):
        rules = (*MACHINE[4], ("sub", "reg", ("sub", ("reg",), ("nt", "src")), 2, 1, 1, ()))
        machine = with_rules(MACHINE, registers=6, rules=rules)
        code, certificate = build(machine, COUNTDOWN)
        self.see(Dice(1), machine, COUNTDOWN, code, certificate)
        self.assertEqual([label for label, _ in certificate], [1, 7, 9])
        self.assertEqual([variable for variable, _ in dict(certificate)[9]], [1])
        code, certificate = build(machine, (8, 0, ((5, (), ("return", ("int", 7))),)))
        self.assertEqual(certificate, ())

    def test_uncovered(self):
        for seed in range(60):
            dice = Dice(seed)
            machine, function = any_work(dice)
            rules = list(machine[4])
            for _ in range(12):
                del rules[dice.number(0, len(rules) - 1)]
            machine = with_rules(machine, rules=tuple(rules))
            lost = uncovered(machine, function)
            if lost:
                with self.assertRaises(Uncovered) as caught:
                    build(machine, function)
                self.assertEqual(caught.exception.path, lost[0])
        with self.assertRaises(Uncovered) as caught:
            build(PLAIN, (8, 1, ((4, (("set", 1, number(3)), ("write", ("mul", v(0), v(1)))), ("return", v(0))),)))
        self.assertEqual(caught.exception.path, (4, 1))
        with self.assertRaises(Uncovered) as caught:
            build(PLAIN, (8, 1, ((4, (("set", 1, number(3)),), ("return", ("neg", v(0)))),)))
        self.assertEqual(caught.exception.path, (4, -1))

    def test_no_registers(self):
        # Two registers and no cells do not hold three values.
        machine = with_rules(PLAIN, registers=2, frame=0)
        function = (8, 2, ((3, (("set", 2, ("sub", v(0), v(1))), ("write", v(2)), ("write", v(0)), ("write", v(1))),
                            ("return", v(2))),))
        with self.assertRaises(NoRegisters) as caught:
            build(machine, function)
        self.assertEqual(caught.exception.label, 3)
        self.assertEqual(len(build(with_rules(machine, registers=3), function)[0][1]), 1)

    def test_the_room_that_suffices(self):
        least = 0
        for seed in range(150):
            dice = Dice(seed)
            width = dice.number(1, 16)
            variables = dice.number(1, 8)
            function = looping_function(dice, width, variables, dice.number(1, 6), 3)
            for machine in roomy(dice, width, variables):
                wide, fixed = tied(machine, emit(machine, function))
                self.assertEqual(fixed, ())
                names = {name for _, rows, _ in wide[1] for row in rows for name in row[1:3] if type(name) is int}
                operands = max([2, *[len(row[3]) for _, rows, _ in wide[1] for row in rows if row[0] == "tile"]])
                room = with_rules(machine, registers=max(operands + 3, function[1] + 1))
                if len(names | set(range(8))) <= machine[2]:
                    self.see(dice, room, function, *build(room, function))
                    least += 1
        self.assertGreater(least, 150)

    def test_nothing_is_changed(self):
        dice = Dice(5)
        machine, function = any_work(dice, False)
        before = repr((machine, function))
        code, certificate = build(machine, function)
        made = repr((code, certificate))
        trim(machine, function, code, certificate)
        self.assertEqual((repr((machine, function)), repr((code, certificate))), (before, made))


class Trim(unittest.TestCase):
    def trims(self, code, wanted, certificate=CERTIFICATE, function=FUNCTION, machine=PLAIN):
        self.assertIsNone(refusal(machine, function, code, certificate))
        self.assertEqual(trim(machine, function, code, certificate), wanted)
        self.assertEqual(plain_trim(machine, function, code, certificate), wanted)
        self.assertTrue(check(machine, function, wanted, certificate))

    def test_nothing_to_leave_out(self):
        self.trims(CODE, CODE)

    def test_at_the_end_and_the_beginning_and_in_between(self):
        more = (3, (move(3, 0), *ENTRY[1][:2], tile("li", 3, 5), *ENTRY[1][2:], move(1, 3)), ENTRY[2])
        self.trims((CODE[0], (more, LOOP, LAST)), CODE)
        more = (5, (tile("li", 3, 7), *LOOP[1], tile("li", 3, 7), ("spill", 2, 3)), LOOP[2])
        self.trims((CODE[0], (ENTRY, more, LAST)), CODE)
        more = (1, (move(1, 2), move(2, 1), *LAST[1], ("fill", 3, 0)), LAST[2])
        self.trims((CODE[0], (ENTRY, LOOP, more)), CODE)

    def test_several_in_each_block(self):
        blocks = tuple((label, (move(3, 2), *rows, move(3, 2), ("spill", 7, 3)), end) for label, rows, end in CODE[1])
        self.trims((CODE[0], blocks), CODE)
        self.trims((CODE[0], (blocks[0], blocks[2], blocks[1])), (CODE[0], (ENTRY, LAST, LOOP)))

    def test_from_the_last_one_to_the_first(self):
        # Of two that do the same the last one goes, and what only it needed goes then, too.
        one = (0, (tile("li", 2, 5), tile("li", 2, 5), tile("addi", 3, 2, 1), tile("addi", 3, 2, 1)), ret(3))
        function = (8, 0, ((0, (), ("return", number(6))),))
        self.trims(((), (one,)), ((), ((0, (tile("li", 2, 5), tile("addi", 3, 2, 1)), ret(3)),)), (), function)
        chain = (0, (tile("li", 0, 1), tile("addi", 1, 0, 1), tile("addi", 2, 1, 1), ("spill", 3, 2), tile("li", 3, 6)), ret(3))
        self.trims(((), (chain,)), ((), ((0, (tile("li", 3, 6),), ret(3)),)), (), function)
        # The first one alone could go, but the last one is asked first.
        twice = (0, (tile("li", 2, 5), move(1, 2), tile("li", 2, 5), move(1, 2), tile("addi", 3, 1, 1)), ret(3))
        self.trims(((), (twice,)), ((), ((0, (tile("li", 2, 5), move(1, 2), tile("addi", 3, 1, 1)), ret(3)),)), (), function)

    def test_pairs_that_only_go_together_stay(self):
        # Each of the two moves is needed while the other one is there.
        rows = (tile("addi", 0, 0, 1), tile("addi", 0, 0, -1))
        function = (8, 1, ((0, (), ("return", v(0))),))
        self.trims(((0,), ((0, rows, ret(0)),)), ((0,), ((0, rows, ret(0)),)), (), function)

    def test_words_that_are_read_and_do_not_matter(self):
        # Both rules read registers whose words do not count, as a sum takes them away or they are multiplied by 0.
        rules = (*PLAIN[4], ("near", "reg", ("sub", ("add", ("load", REG), REG), REG), 1, 1, 0, ()),
                 ("odd", "reg", ("mul", REG, ("sub", REG, REG)), 1, 1, 0, ()))
        machine = with_rules(PLAIN, rules=rules)
        near, odd = tile_of_name(machine, "near"), tile_of_name(machine, "odd")
        function = (8, 2, ((0, (("store", v(0), v(1)),), ("return", ("load", v(1)))),))
        rows = (tile("st", -1, 0, 1), tile("li", 2, 5), ("tile", near, 0, (1, 2, 2)))
        self.trims(((0, 1), ((0, rows, ret(0)),)), ((0, 1), ((0, rows[::2], ret(0)),)), (), function, machine)
        function = (8, 2, ((0, (), ("return", number(0))),))
        rows = (move(2, 0), tile("li", 1, 0), tile("li", 2, 5), ("tile", odd, 0, (1, 2, 0)))
        self.trims(((0, 1), ((0, rows, ret(0)),)), ((0, 1), ((0, rows[::3], ret(0)),)), (), function, machine)

        # What goes last changes two registers, but not how far they are apart.
        function = (8, 2, ((0, (), ("return", v(1))),))
        rows = (tile("li", 2, 5), move(2, 0), tile("li", 2, 5), tile("addi", 3, 2, 1), ("tile", odd, 0, (1, 3, 2)))
        self.trims(((0, 1), ((0, rows, ret(0)),)), ((0, 1), ((0, rows[3:], ret(0)),)), (), function, machine)

    def test_claims_keep_what_is_needed_later(self):
        rows = (*LOOP[1], move(3, 2))
        self.trims((CODE[0], (ENTRY, (5, rows, LOOP[2]), LAST)), CODE)
        claimed = ((1, ((2, ("reg", 2)), (2, ("reg", 3)), (3, ("cell", 4)))), CERTIFICATE[1])
        code = (CODE[0], (ENTRY, (5, rows, LOOP[2]), LAST))
        self.trims(code, code, claimed)
        self.trims((CODE[0], (ENTRY, (5, (move(3, 0), *rows), branch(3, 5, 1)), LAST)),
                   (CODE[0], (ENTRY, (5, rows, branch(3, 5, 1)), LAST)), claimed)

    def test_random_ones(self):
        gone = {"none": 0, "some": 0}
        for seed in range(100):
            dice = Dice(seed)
            machine, function = any_work(dice)
            try:
                code, certificate = build(machine, function, ordered=dice.number(0, 1) == 1)
            except NoRegisters:
                continue
            found = trim(machine, function, code, certificate)
            self.assertEqual(found, plain_trim(machine, function, code, certificate))
            self.assertTrue(check(machine, function, found, certificate))
            self.assertEqual(code_faults(machine, found), [])
            gone["some" if found != code else "none"] += 1
            words = words_for(dice, machine[0], function[1])
            self.assertEqual(run_code(machine, found, words, fuel=9), run(function, words, fuel=9))
        self.assertGreater(min(gone.values()), 10)

    def test_code_with_much_that_is_not_needed(self):
        for seed in range(40):
            dice = Dice(seed)
            machine, function = any_work(dice, False)
            machine = with_rules(machine, registers=12, frame=64)
            code, certificate = build(machine, function)
            blocks = []
            for label, rows, end in code[1]:
                more = list(rows)
                for _ in range(dice.number(0, 12)):
                    row = dice.pick([("move", dice.number(0, 11), dice.number(0, 11)),
                                     ("spill", dice.number(0, 63), dice.number(0, 11)),
                                     ("fill", dice.number(0, 11), dice.number(0, 63)), *rows[:5],
                                     ("tile", tile_of_name(machine, "addq"), dice.number(0, 11), (0, 1))])
                    at = dice.number(0, len(more))
                    trial = (*more[:at], row, *more[at:])
                    fewer = tuple(block if block[0] != label else (label, trial, end) for block in code[1])
                    more = list(trial) if check(machine, function, (code[0], fewer), certificate) else more
                blocks.append((label, tuple(more), end))
            fuller = (code[0], tuple(blocks))
            found = trim(machine, function, fuller, certificate)
            self.assertEqual(found, plain_trim(machine, function, fuller, certificate))


if __name__ == "__main__":
    unittest.main()
