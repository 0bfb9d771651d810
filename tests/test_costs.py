"""[4.4] tables of costs."""

import copy
import unittest

import oracle
from leasttiles.costs import check_costs, cost_table, parts
from leasttiles.covers import least_cover
from samples import MACHINE, REG, Dice, nest, wrap

X, Y = ("var", 0), ("var", 1)
FIVE = ("int", 5)
TREE = ("store", ("add", X, FIVE), ("sub", X, FIVE))
TABLE = (
    (("", 7),),
    (("adr", 1), ("reg", 2), ("src", 3)),
    (("adr", 1), ("reg", 0), ("src", 1)),
    (("adr", 2), ("reg", 1), ("src", 0)),
    (("adr", 3), ("reg", 2), ("src", 3)),
    (("adr", 1), ("reg", 0), ("src", 1)),
    (("adr", 2), ("reg", 1), ("src", 0)),
)


def changed(at, row):
    """TABLE with another row at a place."""
    return (*TABLE[:at], row, *TABLE[at + 1:])


def tables_near(dice, table):
    """Tables that differ from a table in a number, a pair or the order of rows."""
    for at, row in enumerate(table):
        for place, (word, number) in enumerate(row):
            yield with_row(table, at, (*row[:place], (word, number + 1), *row[place + 1:]))
            yield with_row(table, at, (*row[:place], *row[place + 1:]))
            if number > 0:
                yield with_row(table, at, (*row[:place], (word, dice.number(0, number - 1)), *row[place + 1:]))
        for word in ("", "a", "b", "reg"):
            if word not in dict(row):
                yield with_row(table, at, tuple(sorted((*row, (word, dice.number(0, 9))))))
    for at in range(len(table) - 1):
        yield (*table[:at], table[at + 1], table[at], *table[at + 2:])
    yield tuple(tuple((word, 0) for word, _ in row) for row in table)


def with_row(table, at, row):
    return (*table[:at], row, *table[at + 1:])


class Parts(unittest.TestCase):
    def test_parts(self):
        self.assertEqual(parts(X), (X,))
        self.assertEqual(parts(FIVE), (FIVE,))
        self.assertEqual(parts(TREE), (TREE, TREE[1], X, FIVE, TREE[2], X, FIVE))
        self.assertEqual(parts(("branch", ("load", X))), (("branch", ("load", X)), ("load", X), X))

    def test_many(self):
        for seed in range(100):
            tree = Dice(seed).tree(8, 6)
            self.assertEqual(parts(tree), tuple(oracle.parts_of(tree)))


class Table(unittest.TestCase):
    def test_sample(self):
        self.assertEqual(cost_table(MACHINE, TREE), TABLE)
        self.assertEqual(cost_table(MACHINE, X), ((("adr", 1), ("reg", 0), ("src", 1)),))

    def test_no_rules(self):
        self.assertEqual(cost_table((8, 2, 0, (1, 1, 1), ()), ("add", X, FIVE)), ((), (("reg", 0),), ()))

    def test_many(self):
        for seed in range(150):
            dice = Dice(seed)
            machine = dice.rich_machine(4, 14)
            tree = dice.small_tree(4, 4)
            table = cost_table(machine, tree)
            self.assertTrue(check_costs(machine, tree, table))
            for part, row in zip(oracle.parts_of(tree), table):
                self.assertEqual([word for word, _ in row], sorted(dict(row)))
                for result in ("", "a", "b", "reg"):
                    found = least_cover(machine, part, result)
                    self.assertEqual(dict(row).get(result), None if found is None else found[0])


class Check(unittest.TestCase):
    def test_least_costs(self):
        self.assertIs(check_costs(MACHINE, TREE, TABLE), True)

    def test_each_number_one_more(self):
        for at, row in enumerate(TABLE):
            for place, (word, number) in enumerate(row):
                more = (*row[:place], (word, number + 1), *row[place + 1:])
                self.assertIs(check_costs(MACHINE, TREE, changed(at, more)), False, (at, word))

    def test_a_pair_left_out(self):
        for at, row in enumerate(TABLE):
            for place in range(len(row)):
                less = (*row[:place], *row[place + 1:])
                self.assertIs(check_costs(MACHINE, TREE, changed(at, less)), False, (at, place))

    def test_smaller_numbers(self):
        self.assertTrue(check_costs(MACHINE, TREE, changed(0, (("", 0),))))
        zeros = tuple(tuple((word, 0) for word, _ in row) for row in TABLE)
        self.assertTrue(check_costs(MACHINE, TREE, zeros))
        self.assertTrue(check_costs(MACHINE, TREE, (*zeros[:3], TABLE[3], *zeros[4:])))
        self.assertFalse(check_costs(MACHINE, TREE, (*zeros[:3], (("adr", 2), ("reg", 0), ("src", 0)), *zeros[4:])))

    def test_a_variable_has_0(self):
        self.assertFalse(check_costs((8, 2, 0, (1, 1, 1), ()), X, ((("reg", 1),),)))
        self.assertTrue(check_costs((8, 2, 0, (1, 1, 1), ()), X, ((("reg", 0),),)))
        self.assertFalse(check_costs((8, 2, 0, (1, 1, 1), ()), X, ((),)))
        self.assertTrue(check_costs((8, 2, 0, (1, 1, 1), ()), FIVE, ((),)))

    def test_a_pair_put_in(self):
        rules = (("li", "reg", ("imm", 0, 4), 2, 1, 0, ()), ("neg", "reg", ("neg", REG), 1, 1, 0, ()))
        machine = (8, 2, 0, (1, 1, 1), rules)
        tree = ("neg", FIVE)
        self.assertEqual(cost_table(machine, tree), ((), ()))
        self.assertTrue(check_costs(machine, tree, ((), ())))
        self.assertTrue(check_costs(machine, tree, ((("reg", 3),), ())))
        self.assertFalse(check_costs(machine, tree, ((), (("reg", 3),))))
        self.assertTrue(check_costs(machine, tree, ((("reg", 4),), (("reg", 3),))))
        self.assertFalse(check_costs(machine, tree, ((("reg", 5),), (("reg", 3),))))

    def test_rows_and_order(self):
        self.assertFalse(check_costs(MACHINE, TREE, (TABLE[1], TABLE[0], *TABLE[2:])))
        self.assertFalse(check_costs(MACHINE, TREE, (*TABLE[:2], TABLE[3], TABLE[2], *TABLE[4:])))
        self.assertFalse(check_costs(MACHINE, TREE, TABLE[:-1]))
        self.assertFalse(check_costs(MACHINE, TREE, (*TABLE, TABLE[-1])))
        for at, row in enumerate(TABLE):
            if len(row) > 1:
                self.assertFalse(check_costs(MACHINE, TREE, changed(at, row[::-1])))
                self.assertFalse(check_costs(MACHINE, TREE, changed(at, (row[1], row[0], *row[2:]))))

    def test_a_result_twice(self):
        for at, row in enumerate(TABLE):
            for place, (word, number) in enumerate(row):
                for other in (number, number + 1):
                    twice = (*row[:place], (word, number), (word, other), *row[place + 1:])
                    self.assertFalse(check_costs(MACHINE, TREE, changed(at, twice)))

    def test_numbers(self):
        for number in (-1, True, False, None, "0", (0,), [0], wrap(1, 100000)):
            self.assertFalse(check_costs(MACHINE, TREE, changed(0, (("", number),))), number)
            self.assertFalse(check_costs(MACHINE, TREE, changed(3, (("adr", 2), ("reg", number), ("src", 0)))),
                number)
        self.assertFalse(check_costs(MACHINE, TREE, changed(2, (("adr", 1), ("reg", False), ("src", 1)))))

    def test_other_forms(self):
        for value in (
            None, True, 0, "table", (), [], list(TABLE), (TABLE,), (None,) * 7, ((),) * 7, (((),),) * 7, wrap(1,
            100000),
            (wrap(1, 100000),) * 7, (("",),) * 7, (5,) * 7, ("",) * 7,
        ):
            self.assertIs(check_costs(MACHINE, TREE, value), False, value)
        for row in (
            [("", 7)], (["", 7],), (("", 7, 7),), (("",),), ((7, ""),), (None,), ((None, 7),), ((("",), 7),), ((True,
            7),),
            (([""], 7),), "ab", ("ab",), {"": 7}, ((wrap("", 100000), 7),), ((), ("", 7)), (("", 7), None),
        ):
            self.assertIs(check_costs(MACHINE, TREE, changed(0, row)), False, row)

    def test_equal_parts_have_rows_of_their_own(self):
        low = (("adr", 1), ("reg", 0), ("src", 0))
        self.assertTrue(check_costs(MACHINE, TREE, changed(2, low)))
        self.assertFalse(check_costs(MACHINE, TREE, changed(2, (("adr", 0), ("reg", 0)))))

    def test_many(self):
        taken = refused = 0
        for seed in range(150):
            dice = Dice(seed)
            machine = dice.rich_machine(4, 12)
            tree = dice.small_tree(4, 3)
            for table in tables_near(dice, cost_table(machine, tree)):
                expected = oracle.bounds(machine, tree, table)
                taken += expected
                refused += not expected
                self.assertIs(check_costs(machine, tree, table), expected, (seed, table))
        self.assertGreater(taken, 300)
        self.assertGreater(refused, 300)

    def test_deep(self):
        machine = (8, 2, 0, (1, 1, 1), (("neg", "reg", ("neg", REG), 99, 1, 0, ()),))
        tree = nest("neg", X, 20)
        table = cost_table(machine, tree)
        self.assertEqual(table[0], (("reg", 19 * 99),))
        self.assertTrue(check_costs(machine, tree, table))

    def test_nothing_is_changed(self):
        machine, tree, table = copy.deepcopy(MACHINE), copy.deepcopy(TREE), copy.deepcopy(TABLE)
        check_costs(machine, tree, table)
        cost_table(machine, tree)
        self.assertEqual((machine, tree, table), (MACHINE, TREE, TABLE))


if __name__ == "__main__":
    unittest.main()
