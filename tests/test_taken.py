"""What check takes runs as the function does, whoever made it ([8.4], [0.1] point 1)."""

import unittest

from build_samples import all_words, any_pair, changed_certificate, changed_code
from code_samples import words_for
from leasttiles.checker import check, refusal
from leasttiles.coderun import run_code
from leasttiles.run import run
from samples import Dice


class Taken(unittest.TestCase):
    def see_runs(self, dice, machine, function, code):
        """See that the code's runs are those of the function, for all inputs if they are few."""
        width, params, _ = function
        if width * params <= 4:
            rows = all_words(width, params)
        else:
            rows = [words_for(dice, width, params) for _ in range(6)]
        for words in rows:
            for fuel in (0, 1, 2, 3, 7, 20):
                self.assertEqual(run_code(machine, code, words, fuel=fuel), run(function, words, fuel=fuel))

    def changed(self, dice, machine, code, certificate):
        """The code and certificate with a few changes, most often one."""
        for _ in range(dice.pick([1, 1, 1, 2, 3])):
            if dice.number(0, 2) == 0:
                certificate = changed_certificate(dice, machine, certificate)
            else:
                code = changed_code(dice, machine, code)
        return code, certificate

    def test_what_is_changed_at_a_place(self):
        reasons = {}
        for seed in range(120):
            dice = Dice(seed)
            found = any_pair(dice, width=dice.pick([1, 1, 2, 3, 16]))
            if found is None:
                continue
            machine, function, code, certificate = found
            self.see_runs(dice, machine, function, code)
            for _ in range(25):
                other = self.changed(dice, machine, code, certificate)
                why = refusal(machine, function, *other)
                self.assertIs(check(machine, function, *other), why is None)
                reason = "same" if other == (code, certificate) else why[1] if why is not None else "taken"
                reasons[reason] = reasons.get(reason, 0) + 1
                if reason == "taken":
                    self.see_runs(dice, machine, function, other[0])
        for reason in ("taken", "code", "form", "store", "write", "end", "claim"):
            self.assertGreater(reasons[reason], 15, reasons)

    def test_what_differs_in_its_runs_is_refused(self):
        different = 0
        for seed in range(200, 260):
            dice = Dice(seed)
            found = any_pair(dice, width=1, blocks=3)
            if found is None:
                continue
            machine, function, code, certificate = found
            rows = all_words(1, function[1])
            wanted = [run(function, words, fuel=9) for words in rows]
            for _ in range(25):
                other, claims = self.changed(dice, machine, code, certificate)
                if refusal(machine, function, other, claims) in ((-1, "code"), (-1, "form")):
                    continue
                if [run_code(machine, other, words, fuel=9) for words in rows] != wanted:
                    self.assertFalse(check(machine, function, other, claims))
                    different += 1
        self.assertGreater(different, 100)


if __name__ == "__main__":
    unittest.main()
