"""The house ([11.3])."""

import unittest

from build_samples import built
from code_samples import full_machine, looping_function, untied, with_rules, words_for
from leasttiles.backend import build, trim
from leasttiles.checker import check
from leasttiles.codes import code_faults, cost_of
from leasttiles.coderun import run_code
from leasttiles.errors import NoRegisters, Uncovered
from leasttiles.house import House
from leasttiles.listing import read_code, show_code
from leasttiles.run import run
from samples import COUNTDOWN, Dice
from test_checker import FUNCTION, PLAIN, number, v


def names_in(machine, tile):
    """The names of the rules of a tile, with those of its tiles."""
    return [machine[4][tile[0]][0], *[name for part in tile[1] for name in names_in(machine, part)]]


def report_of(machine, code):
    """The report by the words of the document."""
    items = [item for _, rows, end in code[1] for item in (*rows, end)]
    names = [name for item in items if item[0] in ("tile", "branch", "return") for name in names_in(machine, item[1])]
    text = f"blocks {len(code[1])}\ninstructions {sum(len(rows) for _, rows, _ in code[1])}\ncost {cost_of(machine, code)}\n"
    return text + "".join(f"{name} {names.count(name)}\n" for name in sorted(set(names)))


class Houses(unittest.TestCase):
    def everything(self, house):
        """All that a house tells."""
        return (house.code(), house.certificate(), house.cost(), house.listing(), house.report())

    def see(self, house, machine, function):
        """See that a house is that of a machine and a function."""
        code, certificate = build(machine, function)
        self.assertEqual(house.certificate(), certificate)
        self.assertEqual(house.code(), trim(machine, function, code, certificate))
        self.assertTrue(check(machine, function, house.code(), house.certificate()))
        self.assertEqual(house.cost(), cost_of(machine, house.code()))
        self.assertEqual(house.listing(), show_code(machine, house.code()))
        self.assertEqual(read_code(machine, house.listing()), house.code())
        self.assertEqual(house.report(), report_of(machine, house.code()))

    def test_a_sample(self):
        house = House(PLAIN, FUNCTION)
        self.see(house, PLAIN, FUNCTION)
        self.assertEqual(code_faults(PLAIN, house.code()), [])
        for words in ((0, 0), (1, 2), (255, 3), (4, 0)):
            for fuel in (0, 1, 3, 1000):
                self.assertEqual(house.run(words, fuel=fuel), run(FUNCTION, words, fuel=fuel))
                self.assertIs(house.same(words, fuel=fuel), True)

    def test_the_report(self):
        function = (8, 2, ((0, (("write", ("add", v(0), v(1))), ("set", 0, ("add", v(0), ("int", 3))), ("store", v(0), v(1)),
                                ("write", ("add", v(0), v(1))), ("set", 9, ("add", v(0), ("add", v(0), v(1))))),
                           ("go", 7)), (7, (), ("return", v(9)))))
        rules = with_rules(PLAIN, rules=(*PLAIN[4][:3], *[(*rule[:3], 0, *rule[4:]) for rule in PLAIN[4][3:11]],
                                         *PLAIN[4][11:12], (*PLAIN[4][12][:3], 0, *PLAIN[4][12][4:])))
        house = House(rules, function)
        rows = house.report().split("\n")
        self.assertEqual(rows[0], "blocks 2")
        self.assertEqual(rows[-1], "")
        self.assertEqual([row.split()[0] for row in rows[:3]], ["blocks", "instructions", "cost"])
        names = [row.split()[0] for row in rows[3:-1]]
        self.assertEqual(names, sorted(names))
        self.assertIn("sumr", names)
        self.assertNotIn("li", names)
        self.assertEqual(house.report(), report_of(rules, house.code()))
        self.assertEqual(rows[-2].split()[0], names[-1])

    def test_the_report_of_little(self):
        house = House(PLAIN, (8, 1, ((5, (), ("return", v(0))),)))
        self.assertEqual(house.report(), "blocks 1\ninstructions 0\ncost 1\nret 1\n")
        house = House(PLAIN, (8, 0, ((5, (), ("go", 3)), (3, (), ("go", 3)))))
        self.assertEqual(house.report(), "blocks 2\ninstructions 0\ncost 0\n")
        self.assertEqual((house.cost(), house.certificate()), (0, ((3, ()),)))
        house = House(PLAIN, (8, 0, ((5, (("write", ("int", 3)), ("write", ("int", 5))), ("return", ("int", 4))),)))
        self.assertEqual(house.report(), "blocks 1\ninstructions 5\ncost 6\nli 3\nret 1\nwr 2\n")

    def test_what_raises(self):
        with self.assertRaises(Uncovered) as caught:
            House(PLAIN, (8, 1, ((5, (("write", ("neg", v(0))),), ("return", v(0))),)))
        self.assertEqual(caught.exception.path, (5, 0))
        with self.assertRaises(NoRegisters) as caught:
            House(with_rules(PLAIN, registers=2, frame=0), (8, 2, ((5, (
                ("set", 2, ("sub", v(0), v(1))), ("write", v(2)), ("write", v(0)), ("write", v(1))), ("return", v(2))),)))
        self.assertEqual(caught.exception.label, 5)

    def test_change(self):
        house = House(PLAIN, FUNCTION)
        first = self.everything(house)
        dear = with_rules(PLAIN, registers=7, costs=(4, 5, 6),
                          rules=tuple((rule[0], rule[1], rule[2], rule[3] + 3, *rule[4:]) for rule in PLAIN[4]))
        self.assertIsNone(house.change(dear))
        self.see(house, dear, FUNCTION)
        self.assertNotEqual(house.cost(), first[2])
        self.assertTrue(house.same((7, 9), fuel=100))
        house.change(PLAIN)
        self.assertEqual(self.everything(house), first)

    def test_change_that_raises(self):
        house = House(PLAIN, FUNCTION)
        for other in (
            with_rules(PLAIN, rules=PLAIN[4][:4]), with_rules(PLAIN, rules=()), with_rules(PLAIN, registers=2, frame=0),
        ):
            before = self.everything(house)
            runs = [house.run((3, 4), fuel=fuel) for fuel in (0, 2, 50)]
            with self.assertRaises((Uncovered, NoRegisters)) as caught:
                house.change(other)
            with self.assertRaises(type(caught.exception)) as again:
                build(other, FUNCTION)
            self.assertEqual(str(again.exception), str(caught.exception))
            self.assertEqual(self.everything(house), before)
            self.assertEqual([house.run((3, 4), fuel=fuel) for fuel in (0, 2, 50)], runs)
            self.assertTrue(house.same((3, 4), fuel=50))

    def test_same_tells_a_difference(self):
        # A house whose code was exchanged by hand is the only one that differs.
        house = House(PLAIN, FUNCTION)
        other = House(PLAIN, (8, 2, (*FUNCTION[2][:2], (1, (("write", v(3)),), ("return", ("add", v(2), number(1)))))))
        house.function = other.function
        self.assertIs(house.same((3, 4), fuel=1), True)
        self.assertIs(house.same((3, 4), fuel=100), False)

    def test_random_ones(self):
        seen = 0
        for seed in range(80):
            dice = Dice(seed)
            width = dice.number(1, 16)
            function = looping_function(dice, width, dice.number(1, 6), dice.number(1, 5), 3)
            machines = [full_machine(dice, width, dice.pick([5, 8, 16]), 20, dice.number(0, 1) == 1) for _ in range(3)]
            try:
                house = House(machines[0], function)
            except NoRegisters:
                with self.assertRaises(NoRegisters):
                    built(machines[0], function)
                continue
            machine = machines[0]
            for other in machines:
                before = self.everything(house)
                try:
                    house.change(other)
                    machine = other
                except NoRegisters:
                    self.assertEqual(self.everything(house), before)
                self.see(house, machine, function)
                for _ in range(3):
                    words = words_for(dice, width, function[1])
                    self.assertEqual(house.run(words, fuel=12), run_code(machine, house.code(), words, fuel=12))
                    self.assertIs(house.same(words, fuel=12), True)
            seen += 1
        self.assertGreater(seen, 60)

    def test_houses_stand_apart(self):
        one, other = House(PLAIN, FUNCTION), House(untied(PLAIN), (8, 0, ((1, (), ("return", ("int", 2))),)))
        before = self.everything(other)
        one.change(with_rules(PLAIN, registers=9))
        self.assertEqual(self.everything(other), before)
        rules = (*PLAIN[4], ("subi", "reg", ("sub", ("reg",), ("imm", 0, 9)), 1, 1, 0, ()))
        house = House(with_rules(PLAIN, rules=rules), COUNTDOWN)
        self.assertEqual(house.run((3,), fuel=100), ([3, 5, 6], ("return", 6), 9))


if __name__ == "__main__":
    unittest.main()
