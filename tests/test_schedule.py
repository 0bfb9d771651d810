"""[6.4] orders."""

import copy
import unittest

from code_samples import Plain, any_instruction, full_machine, untied, words_for
from leasttiles.depend import depends
from leasttiles.schedule import in_order, is_schedule, least_schedule, list_schedule, schedule_length
from samples import REG, Dice, wrap

# Three units besides that of moves; names tell the unit and the latency.
UNITS = (8, 16, 8, (1, 1, 1), tuple(
    (f"u{unit}l{latency}", "reg", ("add", REG, REG), 1, latency, unit, ())
    for unit in range(4) for latency in (1, 2, 5, 9)
) + (("wr", "", ("write", REG), 1, 3, 2, ()), ("ret", "", ("return", REG), 1, 1, 0, ())))


def op(name, d, a=14, b=15):
    """An instruction of UNITS; registers 14 and 15 are given by none."""
    return ("tile", ([rule[0] for rule in UNITS[4]].index(name), ()), d, (a, b))


def unit_of(machine, row):
    return machine[4][row[1][0]][5] if row[0] == "tile" else 0


def latency_of(machine, row):
    return machine[4][row[1][0]][4] if row[0] == "tile" else 1


def plain_list(machine, rows):
    """The list's schedule by the words of the document."""
    triples = depends(machine, rows)
    reach = {}
    for i in reversed(range(len(rows))):
        reach[i] = max([latency_of(machine, rows[i])] + [d + reach[j] for h, j, d in triples if h == i])
    cycles, cycle = {}, 0
    while len(cycles) < len(rows):
        for unit in range(4):
            free = [j for j in range(len(rows)) if j not in cycles and unit_of(machine, rows[j]) == unit
                    and all(i in cycles and cycles[i] + d <= cycle for i, h, d in triples if h == j)]
            if free:
                cycles[max(free, key=lambda j: (reach[j], -j))] = cycle
        cycle += 1
    return tuple(cycles[j] for j in range(len(rows)))


def plain_least(machine, rows):
    """The least schedule by a plain search, length by length."""
    triples = depends(machine, rows)
    length = 0
    while True:
        found = next(schedules(machine, rows, triples, length, ()), None)
        if found is not None:
            return found
        length += 1


def schedules(machine, rows, triples, length, cycles):
    """All right schedules that begin with some cycles, the least first."""
    j = len(cycles)
    if j == len(rows):
        yield cycles
        return
    for cycle in range(length - latency_of(machine, rows[j]) + 1):
        taken = [i for i in range(j) if cycles[i] == cycle and unit_of(machine, rows[i]) == unit_of(machine, rows[j])]
        if not taken and all(cycles[i] + d <= cycle for i, h, d in triples if h == j):
            yield from schedules(machine, rows, triples, length, (*cycles, cycle))


def random_rows(dice, most, least=0):
    """A machine and a row of instructions for it."""
    machine = untied(full_machine(dice, 8, 8, 5))
    names = range(dice.pick([3, 8, 30]))
    return machine, tuple(any_instruction(dice, machine, names, range(3)) for _ in range(dice.number(least, most)))


class IsSchedule(unittest.TestCase):
    rows = (op("u0l2", 1), op("u1l5", 2, 1), op("u0l1", 3), ("move", 4, 3), op("u1l1", 5, 1))

    def right(self, cycles, expected=True, rows=None):
        self.assertIs(is_schedule(UNITS, self.rows if rows is None else rows, cycles), expected, cycles)

    def test_right_ones(self):
        self.assertEqual(depends(UNITS, self.rows), [(0, 1, 2), (0, 4, 2), (2, 3, 1)])
        for cycles in ((0, 2, 1, 2, 3), (0, 3, 1, 2, 2), (1, 3, 0, 2, 4), (0, 100, 1, 50, 10 ** 30), (5, 7, 3, 4, 8)):
            self.right(cycles)
        self.right((), rows=())
        self.right((0,), rows=self.rows[:1])
        self.right((7,), rows=self.rows[:1])
        self.assertTrue(is_schedule(UNITS, list(self.rows), (0, 2, 1, 2, 3)))

    def test_a_cycle_too_early(self):
        self.right((0, 1, 2, 3, 4), False)
        self.right((0, 2, 1, 1, 3), False)
        self.right((0, 3, 2, 1, 4), False)
        self.right((1, 3, 0, 2, 2), False)
        self.right((1, 2, 0, 2, 4), False)

    def test_a_unit_twice(self):
        self.right((0, 2, 0, 1, 3), False)
        self.right((0, 2, 1, 2, 2), False)
        self.right((2, 4, 1, 2, 5), False)
        self.right((0, 0), True, (op("u2l1", 1), op("u3l1", 2)))
        self.right((0, 0), False, (op("u3l1", 1), op("u3l9", 2)))
        for row in (("move", 1, 2), ("spill", 1, 2), ("fill", 3, 4)):
            self.right((0, 0), False, (op("u0l1", 5), row))
            self.right((0, 0), True, (op("u1l1", 5), row))

    def test_too_many_or_too_few(self):
        for cycles in ((), (0,), (0, 2, 1, 2), (0, 2, 1, 2, 3, 4), (0, 2, 1, 2, 3, 0)):
            self.right(cycles, False)
        self.right((0,), False, ())

    def test_another_form(self):
        for cycles in (
            None, 0, "01234", [0, 2, 1, 2, 3], (0, 2, True, 2, 3), (False, 2, 1, 2, 3), (0, 2, 1, 2, None),
            (0, 2, 1, 2, "3"), (0, 2, 1, 2, (3,)), (-1, 2, 0, 2, 3), (-5, -3, -4, -3, -2), ((0, 2, 1, 2, 3),),
            wrap(1, 100000), (0, 2, 1, 2, wrap(3, 100000)), {}, True,
        ):
            self.right(cycles, False)
        for cycles in (None, 0, "", [], {}, ((),), False):
            self.right(cycles, False, ())

    def test_random(self):
        for seed in range(200):
            dice = Dice(seed)
            machine, rows = random_rows(dice, 6)
            cycles = tuple(dice.number(0, 9) for _ in rows)
            triples = depends(machine, rows)
            places = [(unit_of(machine, row), cycle) for row, cycle in zip(rows, cycles)]
            right = len(set(places)) == len(rows) and all(cycles[j] - cycles[i] >= d for i, j, d in triples)
            self.assertIs(is_schedule(machine, rows, cycles), right)


class Lengths(unittest.TestCase):
    def test_lengths(self):
        self.assertEqual(schedule_length(UNITS, (), ()), 0)
        self.assertEqual(schedule_length(UNITS, (op("u0l5", 1),), (0,)), 5)
        self.assertEqual(schedule_length(UNITS, (op("u0l5", 1), op("u1l1", 2)), (0, 4)), 5)
        self.assertEqual(schedule_length(UNITS, (op("u0l5", 1), op("u1l2", 2)), (0, 4)), 6)
        self.assertEqual(schedule_length(UNITS, (("move", 1, 2), ("spill", 1, 2), ("fill", 1, 2)), (3, 1, 2)), 4)
        self.assertEqual(schedule_length(UNITS, (("tile", (16, ()), -1, (0,)),), (7,)), 10)
        self.assertEqual(schedule_length(UNITS, [op("u0l9", 1), op("u0l1", 2)], (0, 1)), 9)


class Lists(unittest.TestCase):
    def test_none_and_one(self):
        for schedule in (list_schedule, least_schedule):
            self.assertEqual(schedule(UNITS, ()), ())
            self.assertEqual(schedule(UNITS, []), ())
            self.assertEqual(schedule(UNITS, (op("u3l9", 1),)), (0,))
            self.assertIs(type(schedule(UNITS, [("move", 1, 2)])), tuple)

    def test_units(self):
        rows = (op("u0l1", 1), op("u1l1", 2), op("u2l1", 3), op("u3l1", 4), ("move", 5, 6))
        self.assertEqual(list_schedule(UNITS, rows), (0, 0, 0, 0, 1))

    def test_the_greatest_reach_first(self):
        rows = (op("u0l1", 1), op("u0l2", 2), op("u0l5", 3))
        self.assertEqual(list_schedule(UNITS, rows), (2, 1, 0))
        # Register 1 is read by one of latency 9: a reach of 10, more than its latency.
        rows = (op("u0l5", 3), op("u0l1", 1), op("u1l9", 2, 1))
        self.assertEqual(list_schedule(UNITS, rows), (1, 0, 1))
        # Its own latency is more than what depends on it: the move gives what it reads.
        rows = (op("u0l5", 3), op("u0l9", 2, 4), ("move", 4, 5))
        self.assertEqual(list_schedule(UNITS, rows), (1, 0, 2))

    def test_the_first_of_one_reach(self):
        rows = tuple(op("u1l2", d) for d in range(5))
        self.assertEqual(list_schedule(UNITS, rows), (0, 1, 2, 3, 4))
        rows = (op("u0l1", 1), op("u0l2", 2), op("u0l2", 3), op("u0l1", 4))
        self.assertEqual(list_schedule(UNITS, rows), (2, 0, 1, 3))

    def test_it_waits(self):
        rows = (op("u0l5", 1), op("u0l1", 2, 1), op("u0l1", 3, 2), op("u0l1", 4))
        self.assertEqual(list_schedule(UNITS, rows), (0, 5, 6, 1))

    def test_against_the_document(self):
        for seed in range(250):
            dice = Dice(seed)
            machine, rows = random_rows(dice, 14)
            found = list_schedule(machine, rows)
            self.assertEqual(found, plain_list(machine, rows))
            self.assertTrue(is_schedule(machine, rows, found))

    def test_long_rows(self):
        rows = tuple(op(f"u{at % 4}l5", at + 20, at + 10) for at in range(8000))
        found = list_schedule(UNITS, rows)
        self.assertTrue(is_schedule(UNITS, rows, found))
        rows = tuple(op("u0l9", at + 1, at) for at in range(8000))
        self.assertEqual(list_schedule(UNITS, rows), tuple(range(0, 72000, 9)))


class Least(unittest.TestCase):
    def test_the_least_tuple(self):
        # All of length 3; the list takes the second one first.
        rows = (op("u0l1", 1), op("u0l2", 2), op("u0l1", 3))
        self.assertEqual(list_schedule(UNITS, rows), (1, 0, 2))
        self.assertEqual(least_schedule(UNITS, rows), (0, 1, 2))
        rows = (op("u0l1", 1), op("u1l1", 2), op("u2l5", 3))
        self.assertEqual(least_schedule(UNITS, rows), (0, 0, 0))

    def test_shorter_than_the_list(self):
        # Of the second and the third one, which reach as far, the list takes the second one first.
        rows = (op("u1l2", 0), op("u0l1", 1), op("u0l1", 2), op("u0l2", 3, 2, 2), op("u1l5", 4, 2, 2),
                op("u0l1", 5, 2, 0), op("u1l5", 6, 1, 2), op("u0l1", 7, 6, 4))
        self.assertEqual(list_schedule(UNITS, rows), (0, 0, 1, 2, 2, 3, 3, 8))
        self.assertEqual(least_schedule(UNITS, rows), (0, 1, 0, 2, 1, 3, 2, 7))

    def test_never_longer_than_the_list(self):
        for seed in range(300):
            dice = Dice(seed)
            machine, rows = random_rows(dice, 8, 5)
            found = least_schedule(machine, rows)
            self.assertTrue(is_schedule(machine, rows, found))
            self.assertLessEqual(schedule_length(machine, rows, found),
                                 schedule_length(machine, rows, list_schedule(machine, rows)))

    def test_against_a_plain_search(self):
        for seed in range(250):
            dice = Dice(seed)
            machine, rows = random_rows(dice, 5)
            self.assertEqual(least_schedule(machine, rows), plain_least(machine, rows))

    def test_one_unit_against_a_plain_search(self):
        for seed in range(40):
            dice = Dice(seed)
            rows = tuple(op(f"u{dice.number(0, 1)}l{dice.pick([1, 2, 5])}", at, dice.number(0, 9)) for at in range(5))
            self.assertEqual(least_schedule(UNITS, rows), plain_least(UNITS, rows))

    def test_eight(self):
        rows = tuple(op("u1l1", d) for d in range(8))
        self.assertEqual(least_schedule(UNITS, rows), tuple(range(8)))
        rows = tuple(op("u1l9", d) for d in range(8))
        self.assertEqual(least_schedule(UNITS, rows), tuple(range(8)))
        rows = tuple(op(f"u1l{latency}", d) for d, latency in enumerate((1, 1, 1, 1, 2, 5, 5, 9)))
        self.assertEqual(least_schedule(UNITS, rows), (1, 2, 5, 6, 7, 3, 4, 0))
        rows = tuple(op("u0l9", d + 1, d) for d in range(8))
        self.assertEqual(least_schedule(UNITS, rows), tuple(range(0, 72, 9)))


class InOrder(unittest.TestCase):
    def test_order(self):
        self.assertEqual(in_order((), ()), [])
        self.assertEqual(in_order(("a", "b", "c", "d"), (3, 0, 3, 1)), ["b", "d", "a", "c"])
        self.assertEqual(in_order(["a", "b", "c"], (0, 0, 0)), ["a", "b", "c"])
        self.assertEqual(in_order(("a", "b", "c"), (0, 5, 0)), ["a", "c", "b"])

    def test_the_same_is_done(self):
        for seed in range(150):
            dice = Dice(seed)
            machine, rows = random_rows(dice, 12)
            inputs = words_for(dice, 8, 3)
            expected = self.done(machine, rows, inputs)
            orders = [list_schedule(machine, rows), loose_schedule(dice, machine, rows)]
            if len(rows) <= 8:
                orders.append(least_schedule(machine, rows))
            for cycles in orders:
                self.assertTrue(is_schedule(machine, rows, cycles))
                self.assertEqual(self.done(machine, in_order(rows, cycles), inputs), expected)

    def done(self, machine, rows, inputs):
        """What stands in registers, frame and memory behind some instructions, and what they wrote."""
        run = Plain(machine, ((0, 1, 2), ((0, tuple(rows), ("go", 0)),)), inputs, 1)
        return [{name: word for name, word in table.items() if word} for table in (run.words, run.cells)] + [
            run.memory, run.writes]

    def test_nothing_is_changed(self):
        machine, rows = random_rows(Dice(3), 8, 8)
        given = copy.deepcopy((machine, rows))
        for call in (list_schedule, least_schedule, depends):
            call(*given)
        in_order(given[1], list_schedule(*given))
        self.assertEqual(given, (machine, rows))


def loose_schedule(dice, machine, rows):
    """Some right schedule that leaves cycles empty."""
    triples = depends(machine, rows)
    cycles = []
    for j in range(len(rows)):
        cycle = max([cycles[i] + d for i, h, d in triples if h == j], default=0) + dice.number(0, 3)
        while any(cycles[i] == cycle and unit_of(machine, rows[i]) == unit_of(machine, rows[j]) for i in range(j)):
            cycle += 1
        cycles.append(cycle)
    return tuple(cycles)


if __name__ == "__main__":
    unittest.main()
