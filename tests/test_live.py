"""[7.1] life and [7.2] meetings."""

import copy
import unittest

from code_samples import (
    BRL, LI, add, any_code, branch, full_machine, li, looping_function, names_of, ret, untied, write,
)
from leasttiles.emit import emit, tied
from leasttiles.functions import live_in
from leasttiles.live import live_at, meetings
from samples import MACHINE, Dice

GO = ("go", 9)


def reads_of(item):
    """The names that an item of these tests reads."""
    if item[0] == "move":
        return {item[2]}
    if item[0] == "go":
        return set()
    operands = item[3] if item[0] == "tile" else item[2]
    # An imm's operand is no name; only these leaves of MACHINE are numbers.
    return set() if item[1] == LI else set(operands)


def given_by(item):
    if item[0] == "move":
        return item[1]
    return item[2] if item[0] == "tile" and item[2] != -1 else None


class Points:
    """Which names are live at which points of wide code, by a search along the ways."""

    def __init__(self, machine, wide, plain_reads):
        self.blocks = {label: [*rows, end] for label, rows, end in wide[1]}
        self.reads = plain_reads

    def behind(self, label, at):
        """The points to which a way goes from one."""
        item = self.blocks[label][at]
        if at + 1 < len(self.blocks[label]):
            return [(label, at + 1)]
        if item[0] == "go":
            return [(item[1], 0)]
        return [(target, 0) for target in item[3:]] if item[0] == "branch" else []

    def is_live(self, name, start):
        seen, waiting = set(), [start]
        while waiting:
            point = waiting.pop()
            if point in seen:
                continue
            seen.add(point)
            item = self.blocks[point[0]][point[1]]
            if name in self.reads(item):
                return True
            if given_by(item) != name:
                waiting.extend(self.behind(*point))
        return False

    def live_behind(self, name, label, at):
        return any(self.is_live(name, point) for point in self.behind(label, at))


def plain_live_at(machine, wide, names, plain_reads):
    points = Points(machine, wide, plain_reads)
    return [(label, tuple(sorted(name for name in names if points.is_live(name, (label, 0)))))
            for label, _, _ in wide[1]]


def plain_meetings(machine, wide, names, plain_reads):
    points = Points(machine, wide, plain_reads)
    found = set()
    for label, rows, _ in wide[1]:
        for at, item in enumerate(rows):
            d = given_by(item)
            for name in names:
                if d is None or name == d or (item[0] == "move" and item[2] == name):
                    continue
                if points.live_behind(name, label, at):
                    found.add((min(d, name), max(d, name)))
    entry = wide[1][0][0]
    first = {name for name in names if name in wide[0] or points.is_live(name, (entry, 0))}
    found |= {(a, b) for a in first for b in first if a < b}
    return sorted(found)


class LiveAt(unittest.TestCase):
    def live(self, blocks, expected, params=()):
        found = live_at(MACHINE, (params, tuple(blocks)))
        self.assertIs(type(found), list)
        self.assertEqual(found, expected)

    def test_one_block(self):
        self.live([(9, (), ret(5))], [(9, (5,))])
        self.live([(9, (add(3, 2, 1), write(3)), ret(2))], [(9, (1, 2))])
        self.live([(9, (li(3), write(3)), ret(3))], [(9, ())])
        self.live([(9, (add(3, 3, 3),), ret(3))], [(9, (3,))])
        self.live([(9, (li(3),), ret(4))], [(9, (4,))], (0, 1, 2))

    def test_only_an_end_reads(self):
        self.live([(1, (), branch(7, 1, 2)), (2, (), ret(8))], [(1, (7, 8)), (2, (8,))])
        self.live([(1, (), ("branch", BRL, (6, 5), 2, 2)), (2, (), ("go", 2))], [(1, (5, 6)), (2, ())])

    def test_moves(self):
        self.live([(9, (("move", 1, 2), write(1)), ret(1))], [(9, (2,))])
        self.live([(9, (("move", 1, 1),), GO)], [(9, (1,))])
        self.live([(9, (("move", 1, 2), ("move", 2, 1)), ret(2))], [(9, (2,))])

    def test_loops(self):
        self.live([
            (5, (li(0),), ("go", 6)),
            (6, (), branch(1, 7, 8)),
            (7, (add(2, 0, 3),), ("go", 6)),
            (8, (write(2),), ret(150)),
        ], [(5, (1, 2, 3, 150)), (6, (0, 1, 2, 3, 150)), (7, (0, 1, 3, 150)), (8, (2, 150))])

    def test_a_loop_to_the_entry(self):
        self.live([(5, (add(0, 1, 1),), branch(0, 5, 6)), (6, (), ret(2))], [(5, (1, 2)), (6, (2,))])

    def test_through_many_blocks(self):
        blocks = [(label, (), ("go", label + 1)) for label in range(500)]
        self.live([*blocks, (500, (), ret(3))], [(label, (3,)) for label in range(501)])
        self.live([*blocks[::-1], (500, (), ret(3))], [(label, (3,)) for label in range(499, -1, -1)] + [(500, (3,))])

    def test_unreachable_and_without_an_end(self):
        self.live([(1, (), ret(4)), (2, (), ret(5)), (3, (write(6),), ("go", 3))], [(1, (4,)), (2, (5,)), (3, (6,))])


class Meetings(unittest.TestCase):
    def meet(self, rows, end, expected, params=()):
        found = meetings(MACHINE, (params, ((9, tuple(rows), end),)))
        self.assertIs(type(found), list)
        self.assertEqual(found, expected)

    def test_given_while_live(self):
        self.meet([li(1), li(2), add(3, 1, 2)], ret(3), [(1, 2)])
        self.meet([li(1), li(2), li(3), add(4, 1, 2), add(4, 4, 3)], ret(4), [(1, 2), (1, 3), (2, 3), (3, 4)])

    def test_read_and_given(self):
        self.meet([li(1), li(2), add(1, 1, 2), add(1, 1, 2)], ret(1), [(1, 2)])
        self.meet([li(1), add(1, 1, 1)], ret(1), [])
        self.meet([li(1), add(2, 1, 1)], ret(2), [])
        self.meet([li(1), add(2, 1, 1), write(1)], ret(2), [(1, 2)])

    def test_given_and_read_nowhere(self):
        self.meet([li(1), li(2)], ret(1), [(1, 2)])
        self.meet([li(1), li(2), li(3)], ret(2), [(2, 3)])
        self.meet([li(2), li(2)], GO, [])

    def test_moves(self):
        self.meet([li(1), ("move", 2, 1), write(1)], ret(2), [])
        self.meet([li(1), ("move", 2, 1), li(1), write(1)], ret(2), [(1, 2)])
        self.meet([li(1), ("move", 2, 1), add(2, 2, 2), write(1)], ret(2), [(1, 2)])
        self.meet([li(1), li(3), ("move", 2, 1), write(3), write(1)], ret(2), [(1, 3), (2, 3)])
        self.meet([li(1), li(2), ("move", 1, 1)], ("branch", BRL, (1, 2), 9, 9), [(1, 2)])
        self.meet([li(1), ("move", 2, 1)], ret(1), [])

    def test_params(self):
        self.meet([], GO, [(1, 3), (1, 5), (3, 5)], (5, 1, 3))
        self.meet([], GO, [], (5,))
        self.meet([write(7)], ret(1), [(1, 5), (1, 7), (5, 7)], (5, 1))
        self.meet([write(7)], ret(8), [(7, 8)])
        self.meet([li(7), write(7)], ret(1), [(1, 5), (1, 7)], (5, 1))

    def test_loops(self):
        found = meetings(MACHINE, ((0,), (
            (5, (li(1),), ("go", 6)), (6, (li(2), add(1, 1, 2)), branch(0, 6, 7)), (7, (), ret(1)),
        )))
        self.assertEqual(found, [(0, 1), (0, 2), (1, 2)])

    def test_a_loop_to_the_entry(self):
        found = meetings(MACHINE, ((), ((5, (li(1),), branch(2, 5, 5)),)))
        self.assertEqual(found, [(1, 2)])


class Many(unittest.TestCase):
    def test_against_a_search(self):
        for seed in range(120):
            dice = Dice(seed)
            names = dice.pick([range(4), (0, 1, 50, 100, 101), range(9)])
            blocks = tuple(
                (label, tuple(self.item(dice, names) for _ in range(dice.number(0, 5))), self.end(dice, names))
                for label in range(4)
            )
            wide = (tuple(dice.source.sample(list(names), 2)), blocks)
            self.assertEqual(live_at(MACHINE, wide), plain_live_at(MACHINE, wide, names, reads_of))
            self.assertEqual(meetings(MACHINE, wide), plain_meetings(MACHINE, wide, names, reads_of))

    def item(self, dice, names):
        a, b, d = (dice.pick(names) for _ in range(3))
        return dice.pick([add(d, a, b), li(d), write(a), ("move", d, a)])

    def end(self, dice, names):
        return dice.pick([ret(dice.pick(names)), ("go", dice.number(0, 3)),
                          branch(dice.pick(names), dice.number(0, 3), dice.number(0, 3))])

    def test_variables_as_in_the_function(self):
        for seed in range(60):
            dice = Dice(seed)
            machine = full_machine(dice, 8, 8, 8)
            function = looping_function(dice, 8, 5, dice.number(1, 6), 3)
            wide = emit(machine, function)
            # Covers read each variable of their tree, but for those in parts that a pattern's numbers cover.
            self.assertEqual(live_at(machine, wide), live_in(function))
            self.assertEqual(live_at(machine, tied(machine, wide)[0]), live_in(function))

    def test_many_names(self):
        rows = tuple(add(100 + at, 99 + at if at else 0, 0) for at in range(20000))
        wide = ((0,), ((0, rows, ret(20099)),))
        self.assertEqual(live_at(MACHINE, wide), [(0, (0,))])
        self.assertEqual(meetings(MACHINE, wide), [(0, 100 + at) for at in range(19999)])

    def test_nothing_is_changed(self):
        dice = Dice(5)
        machine = untied(full_machine(dice, 8, 8, 8))
        wide = any_code(dice, machine, range(6))
        given = copy.deepcopy((machine, wide))
        live_at(*given)
        meetings(*given)
        self.assertEqual(given, (machine, wide))
        self.assertTrue(names_of(machine, wide) <= set(range(6)))


if __name__ == "__main__":
    unittest.main()
