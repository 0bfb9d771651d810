"""Assembling and disassembling ([10.4], [10.5])."""

import unittest

from code_samples import any_code, full_machine, words_for
from form_samples import any_table
from leasttiles.assemble import assemble, disassemble
from leasttiles.coderun import run_code
from leasttiles.codes import code_faults
from leasttiles.errors import AssemblyError
from leasttiles.forms import decode, encode, table_faults
from samples import Dice
from test_forms import ADD, BR, FORMS, LI, MACHINE, RET, WR, bits, leaf, result, target

MOVE = ("move", 1, 2)
RETURN = ("return", RET, (0,))


def branch(one, other, r=1):
    return ("branch", BR, (r, 5), one, other)


def li(d, word):
    return ("tile", LI, d, (word,))


class Assembled(unittest.TestCase):
    def see(self, blocks, rows, addresses, table=FORMS):
        """See that blocks become these rows, pairs of an item and a distance, and these addresses."""
        code = ((1, 2), blocks)
        self.assertEqual(code_faults(MACHINE, code), [])
        words, places = assemble(MACHINE, table, code)
        self.assertIn(type(words), (list, tuple))
        self.assertEqual(list(words), [encode(MACHINE, table, item, distance) for item, distance in rows])
        self.assertEqual(places, addresses)

    def test_one_block(self):
        self.see(((7, (), RETURN),), [(RETURN, 0)], ((0, 7),))
        self.see(((7, (MOVE, li(0, 3)), RETURN),), [(MOVE, 0), (li(0, 3), 0), (RETURN, 0)], ((0, 7),))

    def test_go(self):
        go = ("go", 0)
        self.see(((0, (), ("go", 0)),), [(go, 0)], ((0, 0),))
        self.see(((0, (MOVE, MOVE), ("go", 0)),), [(MOVE, 0), (MOVE, 0), (go, -2)], ((0, 0),))
        self.see(((3, (MOVE,), ("go", 5)), (5, (), RETURN)), [(MOVE, 0), (RETURN, 0)], ((0, 3), (1, 5)))
        self.see(((3, (MOVE,), ("go", 5)), (4, (), RETURN), (5, (MOVE,), ("go", 3))),
                 [(MOVE, 0), (go, 2), (RETURN, 0), (MOVE, 0), (go, -4)], ((0, 3), (2, 4), (3, 5)))
        # A go from a block to itself is no go to the next one.
        self.see(((3, (), ("go", 3)), (5, (), ("go", 5))), [(go, 0), (go, 0)], ((0, 3), (1, 5)))

    def test_blocks_without_words(self):
        self.see(((9, (), ("go", 4)), (4, (), ("go", 6)), (6, (MOVE,), RETURN)), [(MOVE, 0), (RETURN, 0)],
                 ((0, 4), (0, 6), (0, 9)))
        self.see(((1, (MOVE,), ("go", 8)), (8, (), ("go", 2)), (2, (), ("go", 8))), [(MOVE, 0), (("go", 0), 0)],
                 ((0, 1), (1, 2), (1, 8)))
        self.see(((1, (MOVE,), ("go", 8)), (8, (), ("go", 2)), (2, (), ("go", 1))), [(MOVE, 0), (("go", 0), -1)],
                 ((0, 1), (1, 2), (1, 8)))

    def test_branch(self):
        one, go = branch(0, 0), ("go", 0)
        last = ((4, (MOVE,), RETURN), (6, (), RETURN))
        self.see(((3, (), branch(6, 4)), *last), [(one, 3), (MOVE, 0), (RETURN, 0), (RETURN, 0)], ((0, 3), (1, 4), (3, 6)))
        self.see(((3, (), branch(4, 6)), *last), [(one, 2), (go, 3), (MOVE, 0), (RETURN, 0), (RETURN, 0)],
                 ((0, 3), (2, 4), (4, 6)))
        self.see(((3, (), branch(4, 4)), *last), [(one, 1), (MOVE, 0), (RETURN, 0), (RETURN, 0)], ((0, 3), (1, 4), (3, 6)))
        self.see(((3, (MOVE,), branch(3, 4)), *last), [(MOVE, 0), (one, -1), (MOVE, 0), (RETURN, 0), (RETURN, 0)],
                 ((0, 3), (2, 4), (4, 6)))
        self.see((*last, (3, (), branch(6, 3)))[::-1], [(one, 2), (go, -1), (RETURN, 0), (MOVE, 0), (RETURN, 0)],
                 ((0, 3), (2, 6), (3, 4)))

    def test_the_last_block(self):
        one, go = branch(0, 0), ("go", 0)
        self.see(((3, (), ("go", 4)), (4, (), branch(3, 4))), [(one, 0), (go, -1)], ((0, 3), (0, 4)))
        self.see(((3, (MOVE,), branch(3, 3)),), [(MOVE, 0), (one, -1), (go, -2)], ((0, 3),))

    def refused(self, at, blocks, table=FORMS):
        with self.assertRaises(AssemblyError) as caught:
            assemble(MACHINE, table, ((), blocks))
        self.assertEqual(caught.exception.at, at)

    def test_words_that_do_not_fit(self):
        without = tuple(form for form in FORMS if form[0] != "move")
        self.refused(0, ((0, (MOVE,), RETURN),), without)
        self.refused(2, ((0, (li(0, 1), li(0, 2), MOVE, MOVE), RETURN),), without)
        self.refused(0, ((0, (MOVE,), RETURN),), ())
        no_return = tuple(form for form in FORMS if form[0] != RET)
        self.refused(1, ((0, (MOVE,), RETURN),), no_return)
        # A go that needs no word needs no form.
        no_go = tuple(form for form in FORMS if form[0] != "go")
        blocks = ((0, (), ("go", 2)), (2, (MOVE,), branch(0, 3)), (3, (), RETURN))
        self.assertEqual(len(assemble(MACHINE, no_go, ((), blocks))[0]), 3)
        self.refused(2, (blocks[0], (2, (MOVE,), branch(3, 0)), blocks[2]), no_go)
        self.refused(0, ((0, (), ("go", 3)), *blocks[1:]), no_go)

    def test_distances_that_are_too_great(self):
        near = tuple(form for form in FORMS if form[0] not in ("go", BR))
        near += (("go", (bits(4, 11), target(3), bits(25))), (BR, (bits(4, 6), leaf(0, 3), leaf(1, 1), target(3), bits(21))))
        self.assertEqual(table_faults(MACHINE, near), [])
        for many in (1, 2, 3):
            blocks = ((0, (), ("go", 2)), (1, (MOVE,) * many, RETURN), (2, (), RETURN))
            if many == 1:
                self.assertEqual(len(assemble(MACHINE, near, ((), blocks))[0]), 4)
            else:
                self.refused(0, blocks, near)
        self.assertEqual(len(assemble(MACHINE, near, ((), ((0, (MOVE,) * 4, ("go", 0)),)))[0]), 5)
        self.refused(5, ((0, (MOVE,) * 5, ("go", 0)),), near)
        self.refused(5, ((0, (MOVE,) * 4, branch(0, 0)),), near)
        self.refused(5, ((0, (MOVE,) * 5, branch(0, 0)),), near)


class Disassembled(unittest.TestCase):
    def words(self, *rows):
        return [encode(MACHINE, FORMS, *(row if type(row[0]) is tuple else (row, 0))) for row in rows]

    def see(self, words, blocks, params=(1, 2)):
        for data in (list(words), tuple(words)):
            before = list(data)
            self.assertEqual(disassemble(MACHINE, FORMS, data, params), (params, blocks))
            self.assertEqual(list(data), before)

    def test_blocks(self):
        go = ("go", 0)
        self.see(self.words(RETURN), ((0, (), RETURN),))
        self.see(self.words(RETURN), ((0, (), RETURN),), ())
        self.see(self.words(MOVE, MOVE, RETURN), ((0, (MOVE, MOVE), RETURN),))
        self.see(self.words((go, 0)), ((0, (), ("go", 0)),))
        self.see(self.words(MOVE, (go, -1)), ((0, (MOVE,), ("go", 0)),))
        self.see(self.words(MOVE, (go, 0)), ((0, (MOVE,), ("go", 1)), (1, (), ("go", 1))))
        self.see(self.words((go, 2), MOVE, MOVE, RETURN),
                 ((0, (), ("go", 2)), (1, (MOVE,), ("go", 2)), (2, (MOVE,), RETURN)))
        self.see(self.words(RETURN, RETURN, MOVE, RETURN), ((0, (), RETURN), (1, (), RETURN), (2, (MOVE,), RETURN)))

    def test_branches(self):
        one = branch(0, 0)
        self.see(self.words((one, 2), MOVE, RETURN), ((0, (), branch(2, 1)), (1, (MOVE,), ("go", 2)), (2, (), RETURN)))
        self.see(self.words((one, 1), RETURN), ((0, (), branch(1, 1)), (1, (), RETURN)))
        self.see(self.words((one, 0), RETURN), ((0, (), branch(0, 1)), (1, (), RETURN)))
        self.see(self.words(MOVE, li(0, 1), (one, -1), (one, 1), RETURN),
                 ((0, (MOVE,), ("go", 1)), (1, (li(0, 1),), branch(1, 3)), (3, (), branch(4, 4)), (4, (), RETURN)))
        self.see(self.words(MOVE, (one, 1), (("go", 0), -2)), ((0, (MOVE,), branch(2, 2)), (2, (), ("go", 0))))

    def refused(self, at, words):
        for data in (list(words), tuple(words)):
            with self.assertRaises(AssemblyError) as caught:
                disassemble(MACHINE, FORMS, data, ())
            self.assertEqual(caught.exception.at, at)

    def test_words_of_no_form(self):
        good = self.words(MOVE, MOVE, RETURN)
        for at in range(3):
            self.refused(at, good[:at] + [0] + good[at + 1:])
            self.refused(at, good[:at] + [8 << 28 | 5 << 25] + good[at + 1:])
        self.refused(1, [good[0], 0, 0, 0])
        self.refused(1, [good[0], 0])
        self.refused(0, [0])

    def test_ways_out_of_the_words(self):
        go, one = ("go", 0), branch(0, 0)
        for item in (go, one):
            for distance in (-1, 2, 3, 100, -100):
                self.refused(0, self.words((item, distance), RETURN))
            for distance in (-2, 2, 99):
                self.refused(1, self.words(MOVE, (item, distance), RETURN))
        self.refused(0, self.words((go, 1)))
        self.refused(0, self.words((go, 5), (go, 7)))
        self.refused(0, [*self.words((go, 5)), 0])
        self.refused(1, self.words(MOVE, (one, 5), (go, 7)))
        self.refused(1, [*self.words((go, 1)), 0, *self.words((go, 9))])
        self.refused(0, [*self.words((go, 9)), 0, *self.words((go, 9))])

    def test_the_last_word(self):
        self.refused(0, [])
        self.refused(1, self.words(MOVE))
        self.refused(2, self.words(RETURN, MOVE))
        self.refused(1, self.words((branch(0, 0), 0)))
        self.refused(3, self.words(MOVE, MOVE, (branch(0, 0), -2)))
        # What is wrong ahead of it is told first.
        self.refused(0, self.words((branch(0, 0), 1)))
        self.refused(1, self.words(MOVE, (branch(0, 0), 1)))
        self.refused(0, self.words((("go", 0), 9), MOVE))


def with_short_blocks(dice, code):
    """The code with some blocks that are nothing but a go to the next one, or end with it."""
    params, blocks = code
    rows = list(blocks)
    for at in range(len(blocks) - 1):
        if dice.number(0, 2) == 0:
            rows[at] = (rows[at][0], dice.pick([(), rows[at][1]]), ("go", rows[at + 1][0]))
    return (params, tuple(rows))


class Both(unittest.TestCase):
    def test_random_code(self):
        without_words, branches = 0, 0
        for seed in range(120):
            dice = Dice(seed)
            machine = full_machine(dice, dice.number(1, 16), dice.number(2, 16), dice.number(1, 64), ties=False)
            code = with_short_blocks(dice, any_code(dice, machine, range(machine[1]), range(machine[2]), blocks=6, size=5))
            table = any_table(dice, machine, code)
            self.assertEqual(table_faults(machine, table), [])
            words, addresses = assemble(machine, table, code)
            self.assertEqual(sorted(label for _, label in addresses), sorted(block[0] for block in code[1]))
            self.assertEqual(list(addresses), sorted(addresses))
            found = disassemble(machine, table, words, code[0])
            self.assertEqual(code_faults(machine, found), [])
            without_words += len({at for at, _ in addresses}) < len(addresses)
            branches += any(block[2][0] == "branch" for block in found[1])
            for _ in range(3):
                inputs = words_for(dice, machine[0], len(code[0]))
                first = run_code(machine, code, inputs, fuel=40)
                # An entering of a block may be several here, and none for a block without words.
                second = run_code(machine, found, inputs, fuel=400)
                if first[1] != ("none",):
                    self.assertEqual(second[:2], first[:2])
                else:
                    self.assertEqual(first[0], second[0][:len(first[0])])
        self.assertGreater(without_words, 5)
        self.assertGreater(branches, 40)

    def test_each_word_is_that_of_its_item(self):
        for seed in range(40):
            dice = Dice(seed)
            machine = full_machine(dice, 8, 8, 8, ties=False)
            code = with_short_blocks(dice, any_code(dice, machine, range(8), range(8), blocks=6, size=5))
            table = any_table(dice, machine, code)
            words, addresses = assemble(machine, table, code)
            starts = {label: at for at, label in addresses}
            at = 0
            for number, (label, rows, end) in enumerate(code[1]):
                self.assertEqual(starts[label], at)
                for row in rows:
                    self.assertEqual(decode(machine, table, words[at]), (row, 0))
                    at += 1
                behind = code[1][number + 1][0] if number + 1 < len(code[1]) else None
                if end[0] == "branch":
                    self.assertEqual(decode(machine, table, words[at]), ((*end[:3], 0, 0), starts[end[3]] - at))
                    at += 1
                elif end[0] == "return":
                    self.assertEqual(decode(machine, table, words[at]), (end, 0))
                    at += 1
                if end[0] != "return" and end[-1] != behind:
                    self.assertEqual(decode(machine, table, words[at]), (("go", 0), starts[end[-1]] - at))
                    at += 1
            self.assertEqual(at, len(words))

    def test_nothing_is_changed(self):
        code = ((1,), ((0, (("tile", ADD, 1, (1, 1)), ("tile", WR, -1, (1,))), RETURN),))
        before = repr((code, FORMS, MACHINE))
        words, _ = assemble(MACHINE, FORMS, code)
        data = list(words)
        self.assertEqual(disassemble(MACHINE, FORMS, data, (1,)), code)
        self.assertEqual((data, repr((code, FORMS, MACHINE))), (list(words), before))
        self.assertEqual(result(3), FORMS[0][1][1])


if __name__ == "__main__":
    unittest.main()
