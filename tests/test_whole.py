"""The whole: functions through all parts, from text to words and back ([0.1])."""

import unittest

from build_samples import any_pair, changed_code
from code_samples import words_for
from form_samples import any_table
from leasttiles.assemble import assemble, disassemble
from leasttiles.backend import build, trim
from leasttiles.checker import check
from leasttiles.codes import code_faults, cost_of
from leasttiles.coderun import run_code
from leasttiles.errors import NoRegisters
from leasttiles.forms import decode, encode, overlaps, table_faults
from leasttiles.house import House
from leasttiles.listing import read_code, show_code
from leasttiles.machines import machine_faults
from leasttiles.machtext import read_machine, show_machine
from leasttiles.packing import pack, unpack
from leasttiles.functions import function_faults
from leasttiles.run import run
from leasttiles.text import read_function, show_function
from samples import Dice


class Whole(unittest.TestCase):
    def see_runs(self, dice, machine, function, codes):
        """See that all these codes run as the function does."""
        for _ in range(4):
            words = words_for(dice, function[0], function[1])
            wanted = run(function, words, fuel=30)
            for code in codes:
                self.assertEqual(run_code(machine, code, words, fuel=30), wanted)

    def see_words(self, dice, machine, function, code):
        """See that the assembled code comes back and does what the function does."""
        table = any_table(dice, machine, code)
        self.assertEqual((table_faults(machine, table), overlaps(machine, table)), ([], []))
        words, _ = assemble(machine, table, code)
        back = disassemble(machine, table, list(words), code[0])
        self.assertEqual(code_faults(machine, back), [])
        for word in words:
            self.assertEqual(encode(machine, table, *decode(machine, table, word)), word)
        for _ in range(4):
            inputs = words_for(dice, function[0], function[1])
            wanted = run(function, inputs, fuel=30)
            if wanted[1] != ("none",):
                self.assertEqual(run_code(machine, back, inputs, fuel=300)[:2], wanted[:2])

    def test_all_through(self):
        seen = ends = 0
        for seed in range(120):
            dice = Dice(seed)
            found = any_pair(dice)
            if found is None:
                continue
            machine, function = found[:2]
            self.assertEqual((machine_faults(machine), function_faults(function)), ([], []))
            self.assertEqual(read_machine(show_machine(machine)), machine)
            self.assertEqual(read_function(show_function(function)), function)
            try:
                code, certificate = build(machine, function)
            except NoRegisters:
                continue
            fewer = trim(machine, function, code, certificate)
            house = House(machine, function)
            self.assertEqual((house.code(), house.certificate()), (fewer, certificate))
            self.assertLessEqual(cost_of(machine, fewer), cost_of(machine, code))
            self.assertEqual(unpack(pack((function[0], fewer[0], certificate))), (function[0], fewer[0], certificate))
            self.assertEqual(read_code(machine, show_code(machine, fewer)), fewer)
            self.see_runs(dice, machine, function, (code, fewer, house.code(), found[2]))
            self.see_words(dice, machine, function, code)
            self.see_words(dice, machine, function, fewer)
            ends += run(function, (1,) * function[1], fuel=30)[1] != ("none",)
            seen += 1
        self.assertGreater(seen, 90)
        self.assertGreater(ends, 40)

    def test_what_was_changed_by_hand(self):
        # Changed code that check still takes goes through all the rest.
        taken = 0
        for seed in range(300, 360):
            dice = Dice(seed)
            found = any_pair(dice)
            if found is None:
                continue
            machine, function, code, certificate = found
            for _ in range(10):
                other = changed_code(dice, machine, code)
                if other != code and check(machine, function, other, certificate):
                    self.see_runs(dice, machine, function, (other, trim(machine, function, other, certificate)))
                    self.see_words(dice, machine, function, other)
                    taken += 1
        self.assertGreater(taken, 40)

    def test_packed_data_of_all_parts(self):
        for seed in range(30):
            found = any_pair(Dice(seed))
            if found is not None:
                machine, function, code, certificate = found
                rules = tuple((*rule[:3], *rule[3:]) for rule in machine[4])
                for value in ((*machine[:4], rules), function, code, certificate):
                    self.assertEqual(unpack(pack(value)), value)


if __name__ == "__main__":
    unittest.main()
