"""Sequences, their values and costs, and those of least cost ([9.1], [9.3], [0.1] point 4)."""

import itertools
import unittest

from code_samples import tile_of_name, value, with_rules
from leasttiles.judge import judge_sequence
from leasttiles.machines import leaves, machine_faults, tile_cost, whole_pattern
from leasttiles.sequences import least_sequence, sequence_cost, sequence_value
from leasttiles.words import PAIRS, SINGLES, compute
from samples import REG, Dice
from test_judge import without_loads, word_of

A, B = ("var", 0), ("var", 1)
TOO_MANY = 30000


def rule(name, pattern, cost, result="reg", ties=()):
    return (name, result, pattern, cost, 1, 0, ties)


def machine_of(*rules, width=4):
    return (width, 4, 0, (1, 1, 1), tuple(rules))


ADD, SUB, NOT, NEG = (rule("add", ("add", REG, REG), 1), rule("sub", ("sub", REG, REG), 1), rule("not", ("not", REG), 1),
                      rule("neg", ("neg", REG), 1))


def own_kinds(pattern):
    if pattern[0] == "nt":
        return [pattern[1]]
    return [kind for part in pattern[1:] if isinstance(part, tuple) for kind in own_kinds(part)]


def loads(pattern):
    return pattern[0] == "load" or any(isinstance(part, tuple) and loads(part) for part in pattern[1:])


def all_tiles(machine):
    """The tiles of [9.3]."""
    rows = [(k, row) for k, row in enumerate(machine[4]) if not loads(row[2])]
    flat = {}
    for k, row in rows:
        if not own_kinds(row[2]):
            flat.setdefault(row[1], []).append((k, ()))
    return [(k, tiles) for k, row in rows if row[1] == "reg" and row[6] == ()
            for tiles in itertools.product(*[flat.get(kind, []) for kind in own_kinds(row[2])])]


def items_over(machine, tiles, numbers, count):
    """All items behind so many values."""
    found = []
    for tile in tiles:
        lists = [range(count) if leaf == REG else [n for n in numbers if leaf[1] <= n <= leaf[2]]
                 for leaf in leaves(machine, tile)]
        found += [(tile, operands) for operands in itertools.product(*lists)]
    return found


def plain_search(machine, inputs, e, numbers, most):
    """The least one of all sequences, or "many" if there are too many."""
    rows = list(itertools.product(range(2 ** machine[0]), repeat=inputs))
    target = [word_of(machine[0], e, words) for words in rows]
    tiles = all_tiles(machine)
    found = []
    waiting = [((), 0, [[words[v] for words in rows] for v in range(inputs)])]
    seen = 0
    while waiting:
        seen += 1
        if seen > TOO_MANY:
            return "many"
        sequence, cost, values = waiting.pop()
        if values[-1 if sequence else 0] == target and cost <= most:
            found.append((cost, len(sequence), sequence))
        if len(sequence) == 3:
            continue
        for tile, operands in items_over(machine, tiles, numbers, len(values)):
            mine = leaves(machine, tile)
            column = [value(machine, tile, [values[at][row] if leaf == REG else at for leaf, at in zip(mine, operands)],
                            [0] * 16) for row in range(len(rows))]
            waiting.append(((*sequence, (tile, operands)), cost + tile_cost(machine, tile), [*values, column]))
    return (min(found)[0], min(found)[2]) if found else None


def expression_of(machine, inputs, sequence):
    """The expression that a sequence works out."""
    found = [("var", v) for v in range(inputs)]
    for tile, operands in sequence:
        rest = list(operands)

        def put(pattern):
            if pattern == REG:
                return found[rest.pop(0)]
            if pattern[0] == "imm":
                return ("int", rest.pop(0) % 2 ** machine[0])
            return (pattern[0], *[put(part) for part in pattern[1:]])

        found.append(put(whole_pattern(machine, tile)))
    return found[-1] if sequence else found[0]


def random_pattern(dice, deep):
    if deep == 0 or dice.number(0, 3) == 0:
        least = dice.number(-2, 1)
        return dice.pick([REG, REG, REG, ("imm", least, dice.number(1, 3)), ("imm", least, least), ("nt", "a")])
    op = dice.pick([*PAIRS, *SINGLES] + ["load"] * (dice.number(0, 3) == 0))
    return (op, *[random_pattern(dice, deep - 1) for _ in range(2 if op in PAIRS else 1)])


def random_machine(dice, width):
    rules = []
    for k in range(dice.number(1, 4)):
        result = dice.pick(["reg", "reg", "reg", "a"])
        pattern = random_pattern(dice, dice.pick([1, 1, 2]))
        if pattern == REG and result == "reg":
            pattern = ("neg", REG)
        cost = max(dice.pick([0, 0, 1, 1, 2, 3]), 1 if pattern[0] in ("reg", "nt") else 0)
        ties = (("result", 0),) if result == "reg" and dice.number(0, 9) == 0 else ()
        rules.append(rule(f"x{k}", pattern, cost, result, ties))
    return machine_of(*rules, width=width)


def narrow_machine(dice, width):
    """A machine with few sequences, as its rules have one register each, so that three items are often needed."""
    patterns = [("neg", REG), ("not", REG)]
    patterns += [(op, REG, ("imm", n, n)) for op, n in (("add", 1), ("shl", 1), ("xor", 5), ("mul", 3), ("shr", 1))]
    rules = [rule(f"y{k}", pattern, dice.number(0, 3)) for k, pattern in enumerate(dice.source.sample(patterns, 3))]
    return machine_of(*rules, width=width)


class Values(unittest.TestCase):
    MACHINE = machine_of(
        ADD, SUB, rule("addi", ("add", REG, ("nt", "src")), 3), rule("srcr", REG, 2, "src"),
        rule("srci", ("imm", -128, 300), 0, "src"), rule("srcs", ("shl", REG, ("nt", "src")), 4, "src"),
        rule("li", ("imm", -5, 300), 7), rule("mad", ("add", ("mul", REG, REG), ("nt", "src")), 1), width=8,
    )

    def tile(self, name, *tiles):
        return tile_of_name(self.MACHINE, name, *tiles)

    def test_the_empty_sequence(self):
        self.assertEqual(sequence_value(self.MACHINE, (), (7,)), 7)
        self.assertEqual(sequence_value(self.MACHINE, (), (7, 8, 9)), 7)
        self.assertEqual(sequence_cost(self.MACHINE, ()), 0)

    def test_numbers_of_values(self):
        add, sub = self.tile("add"), self.tile("sub")
        for sequence, words, wanted in (
            (((add, (0, 0)),), (200,), 144),
            (((sub, (0, 1)),), (3, 5), 254),
            (((sub, (1, 0)),), (3, 5), 2),
            (((sub, (0, 1)), (add, (2, 2))), (9, 4), 10),
            (((sub, (0, 1)), (add, (2, 1)), (sub, (3, 2))), (9, 4), 4),
            (((add, (0, 0)), (sub, (0, 0))), (9,), 0),
            (((add, (0, 1)), (add, (1, 1)), (sub, (4, 3))), (9, 4, 1), 251),
        ):
            self.assertEqual(sequence_value(self.MACHINE, sequence, words), wanted)
            self.assertEqual(sequence_cost(self.MACHINE, sequence), len(sequence))

    def test_tiles_within_tiles(self):
        shifted = self.tile("addi", self.tile("srcs", self.tile("srcs", self.tile("srci"))))
        sequence = ((self.tile("li"), (300,)), (self.tile("mad", self.tile("srcr")), (0, 0, 1)), (shifted, (2, 0, 1, 3)))
        # li gives 44, then 5 * 5 + 44 = 69, then 69 + (5 << (44 << 3)) = 69: the shift is more than a word has.
        self.assertEqual(sequence_value(self.MACHINE, sequence, (5,)), 69)
        self.assertEqual(sequence_cost(self.MACHINE, sequence), 7 + (1 + 2) + (3 + 4 + 4))
        low = ((self.tile("li"), (-5,)), (self.tile("addi", self.tile("srci")), (1, -1)))
        self.assertEqual(sequence_value(self.MACHINE, low, (0, )), 250)
        self.assertEqual(sequence_cost(self.MACHINE, low), 10)

    def test_random_ones(self):
        for seed in range(100):
            dice = Dice(seed)
            machine = random_machine(dice, dice.number(1, 8))
            tiles = all_tiles(machine)
            inputs = dice.number(1, 3)
            sequence = ()
            for count in range(inputs, inputs + dice.number(0, 4)):
                items = items_over(machine, tiles, (-1, 0, 1, 2), count)
                sequence += (dice.pick(items),) if items else ()
                if not items:
                    break
            words = tuple(dice.number(0, 2 ** machine[0] - 1) for _ in range(inputs))
            e = expression_of(machine, inputs, sequence)
            self.assertEqual(sequence_value(machine, sequence, words), word_of(machine[0], e, words))
            self.assertEqual(sequence_cost(machine, sequence), sum(tile_cost(machine, tile) for tile, _ in sequence))


class Least(unittest.TestCase):
    def see(self, machine, inputs, e, numbers, most, wanted):
        self.assertEqual(machine_faults(machine), [])
        found = least_sequence(machine, inputs, e, numbers, most)
        self.assertEqual(found, wanted)
        if found is not None:
            self.assertEqual(sequence_cost(machine, found[1]), found[0])
            self.assertIsNone(judge_sequence(machine, inputs, found[1], e))

    def test_none_needed(self):
        machine = machine_of(ADD, SUB)
        for e in (A, ("add", A, ("int", 0)), ("sub", ("add", A, B), B)):
            self.see(machine, 2, e, (), 9, (0, ()))
            self.see(machine, 2, e, (), 0, (0, ()))
            self.assertIsNone(least_sequence(machine, 2, e, (), -1))
        self.see(machine_of(), 1, A, (), 0, (0, ()))
        self.see(machine_of(), 1, ("not", A), (), 99, None)

    def test_one_two_and_three_items(self):
        machine = machine_of(ADD, SUB, NOT)
        add, sub, no = (0, ()), (1, ()), (2, ())
        self.see(machine, 1, ("shl", A, ("int", 1)), (), 9, (1, ((add, (0, 0)),)))
        self.see(machine, 2, ("sub", B, A), (), 9, (1, ((sub, (1, 0)),)))
        self.see(machine, 1, ("neg", A), (), 9, (2, ((add, (0, 0)), (sub, (0, 1)))))
        self.see(machine, 1, ("int", 15), (), 9, (2, ((sub, (0, 0)), (no, (1,)))))
        self.see(machine, 1, ("mul", A, ("int", 8)), (), 9,
                 (3, ((add, (0, 0)), (add, (1, 1)), (add, (2, 2)))))
        self.see(machine, 1, ("mul", A, ("int", 13)), (), 99, (3, ((add, (0, 0)), (add, (1, 1)), (sub, (0, 2)))))
        self.see(machine, 1, ("shr", A, ("int", 1)), (), 99, None)
        self.see(machine, 2, ("add", A, ("not", B)), (), 9, (2, ((sub, (1, 0)), (no, (2,)))))

    def test_a_variable_that_is_not_the_first(self):
        # Only input 0 is the value of the empty sequence.
        machine = machine_of(rule("or", ("or", REG, REG), 2))
        self.see(machine, 2, B, (), 9, (2, (((0, ()), (1, 1)),)))

    def test_most(self):
        machine = machine_of(rule("add", ("add", REG, REG), 2), rule("not", ("not", REG), 3))
        times = ("mul", A, ("int", 4))
        wanted = (4, (((0, ()), (0, 0)), ((0, ()), (1, 1))))
        for most in (4, 5, 99, 10000):
            self.see(machine, 1, times, (), most, wanted)
        for most in (-5, -1, 0, 3):
            self.see(machine, 1, times, (), most, None)
        self.see(machine, 1, ("not", A), (), 3, (3, (((1, ()), (0,)),)))
        self.see(machine, 1, ("not", A), (), 2, None)

    def test_the_cheapest_is_not_the_shortest(self):
        machine = machine_of(ADD, rule("quad", ("shl", REG, ("imm", 2, 2)), 3), rule("oct", ("shl", REG, ("imm", 3, 3)), 2))
        add = (0, ())
        self.see(machine, 1, ("mul", A, ("int", 4)), (2, 3), 9, (2, ((add, (0, 0)), (add, (1, 1)))))
        self.see(machine, 1, ("mul", A, ("int", 8)), (2, 3), 9, (2, (((2, ()), (0, 3)),)))
        self.see(machine, 1, ("mul", A, ("int", 8)), (2,), 9, (3, ((add, (0, 0)), (add, (1, 1)), (add, (2, 2)))))

    def test_equal_costs(self):
        # The shortest, then the least rule, then the least tiles, then the least operands.
        free = machine_of(rule("neg2", ("neg", REG), 1), rule("not", ("not", REG), 0), rule("inc", ("add", REG, ("imm", 1, 1)), 1),
                          rule("neg", ("neg", REG), 1))
        self.see(free, 1, ("neg", A), (1,), 9, (1, (((0, ()), (0,)),)))
        self.see(with_rules(free, rules=free[4][1:]), 1, ("neg", A), (1,), 9, (1, (((2, ()), (0,)),)))
        self.see(with_rules(free, rules=free[4][1:3]), 1, ("neg", A), (1,), 9, (1, (((0, ()), (0,)), ((1, ()), (1, 1)))))
        machine = machine_of(rule("addk", ("add", REG, ("nt", "k")), 1), rule("k1", REG, 1, "k"), rule("k2", REG, 1, "k"))
        self.see(machine, 2, ("add", B, A), (), 9, (2, (((0, ((1, ()),)), (0, 1)),)))
        machine = machine_of(rule("addn", ("add", REG, ("imm", -15, 15)), 1))
        self.see(machine, 1, ("sub", A, ("int", 2)), (-2, 14), 9, (1, (((0, ()), (0, -2)),)))
        self.see(machine, 1, ("sub", A, ("int", 2)), (14,), 9, (1, (((0, ()), (0, 14)),)))
        self.see(machine, 1, ("sub", A, ("int", 2)), (-1, 15), 9, (2, (((0, ()), (0, -1)), ((0, ()), (1, -1)))))

    def test_equal_costs_in_another_order(self):
        # The dear rule stands first in the least tuple, though the cheap one is as good there.
        one, two = rule("one", ("add", REG, ("imm", 1, 1)), 2), rule("two", ("add", REG, ("imm", 2, 2)), 1)
        self.see(machine_of(one, two), 1, ("add", A, ("int", 3)), (1, 2), 9, (3, (((0, ()), (0, 1)), ((1, ()), (1, 2)))))
        self.see(machine_of(two, one), 1, ("add", A, ("int", 3)), (1, 2), 9, (3, (((0, ()), (0, 2)), ((1, ()), (1, 1)))))
        self.see(machine_of(one, two), 1, ("add", A, ("int", 3)), (1, 2), 2, None)
        three = rule("three", ("xor", REG, ("imm", 8, 8)), 4)
        e = ("xor", ("add", A, ("int", 3)), ("int", 8))
        self.see(machine_of(three, one, two), 1, e, (1, 2, 8), 9,
                 (7, (((0, ()), (0, 8)), ((1, ()), (1, 1)), ((2, ()), (2, 2)))))

    def test_two_that_do_not_need_one_another(self):
        machine = machine_of(rule("and", ("and", REG, REG), 1), NOT, NEG)
        self.see(machine, 2, ("and", ("neg", A), ("not", B)), (), 9,
                 (3, (((1, ()), (1,)), ((2, ()), (0,)), ((0, ()), (2, 3)))))
        self.see(machine, 2, ("and", ("not", A), ("neg", B)), (), 9,
                 (3, (((1, ()), (0,)), ((2, ()), (1,)), ((0, ()), (2, 3)))))

    def test_rules_that_cost_nothing(self):
        machine = machine_of(rule("add", ("add", REG, REG), 0), rule("not", ("not", REG), 0))
        self.see(machine, 1, ("shl", A, ("int", 2)), (), 0, (0, (((0, ()), (0, 0)), ((0, ()), (1, 1)))))
        self.see(machine, 1, ("not", ("not", A)), (), 0, (0, ()))
        self.see(machine, 1, ("not", ("shl", A, ("int", 1))), (), 0, (0, (((0, ()), (0, 0)), ((1, ()), (1,)))))

    def test_numbers(self):
        machine = machine_of(rule("li", ("imm", -3, 5), 1), ADD)
        li, add = (0, ()), (1, ())
        self.see(machine, 1, ("int", 5), (5, 6), 9, (1, ((li, (5,)),)))
        self.see(machine, 1, ("int", 13), (-3, 5), 9, (1, ((li, (-3,)),)))
        self.see(machine, 1, ("int", 6), (5, 6), 9, None)
        self.see(machine, 1, ("int", 6), (), 9, None)
        self.see(machine, 1, ("int", 6), (1, 3, 5), 9, (2, ((li, (3,)), (add, (1, 1)))))
        self.see(machine, 1, ("add", A, ("int", 6)), (1, 3, 6), 9, (3, ((li, (3,)), (add, (0, 1)), (add, (1, 2)))))
        self.see(machine, 1, ("add", A, A), (), 9, (1, ((add, (0, 0)),)))

    def test_tiles_two_deep_at_most(self):
        rules = (rule("use", ("add", REG, ("nt", "a")), 1), rule("ab", ("neg", ("nt", "b")), 1, "a"),
                 rule("areg", ("not", REG), 2, "a"), rule("breg", REG, 1, "b"))
        machine = machine_of(*rules)
        self.see(machine, 1, ("add", A, ("not", A)), (), 9, (3, (((0, ((2, ()),)), (0, 0)),)))
        self.see(machine, 1, ("sub", A, A), (), 99, None)
        deep = machine_of(rules[0], rule("ax", ("neg", REG), 9, "a"), *rules[1:])
        self.see(deep, 1, ("sub", A, A), (), 99, (10, (((0, ((1, ()),)), (0, 0)),)))

    def test_rules_that_may_not_stand_there(self):
        tie = (("same", 0),)
        for bad in (
            rule("twice", ("add", REG, REG), 1, ties=tie), rule("twice", ("add", REG, REG), 1, ties=(("result", 1),)),
            rule("twice", ("add", REG, REG), 1, ties=(("needs", 1, 1),)),
            rule("twice", ("add", REG, ("nt", "m")), 1), rule("twice", ("add", REG, ("load", REG)), 1),
            rule("twice", ("add", ("neg", ("load", ("imm", 0, 0))), REG), 1), rule("twice", ("neg", ("not", ("load", REG))), 1),
        ):
            kinds = (rule("mem", ("load", ("imm", 0, 0)), 1, "m"), rule("far", ("nt", "n"), 1, "m"), rule("nr", REG, 1, "n"))
            machine = machine_of(bad, *kinds, NOT)
            self.see(machine, 1, ("add", A, A), (0,), 99, None)
            machine = machine_of(bad, *kinds, NOT, rule("dear", ("add", REG, REG), 50))
            self.see(machine, 1, ("add", A, A), (0,), 99, (50, (((5, ()), (0, 0)),)))
        wr = rule("wr", ("write", REG), 1, "")
        self.see(machine_of(wr, rule("k", ("add", REG, REG), 0, "k")), 1, ("add", A, A), (), 99, None)

    def test_as_a_plain_search_finds(self):
        counts = {}
        for seed in range(300):
            dice = Dice(seed)
            narrow = seed < 150
            machine = narrow_machine(dice, dice.number(2, 4)) if narrow else random_machine(dice, dice.number(1, 2))
            inputs = 1 if narrow else dice.number(1, 2)
            numbers = tuple(sorted(dice.source.sample(range(-3, 5), dice.number(0, 2))))
            numbers = (-1, 1, 3, 5) if narrow else numbers
            e = without_loads(dice, machine[0], 3, inputs)
            cost = 2
            if narrow or dice.number(0, 2):
                sequence, tiles = (), all_tiles(machine)
                for count in range(inputs, inputs + dice.pick([1, 2, 3, 3, 3, 3])):
                    items = items_over(machine, tiles, numbers, count)
                    sequence += (dice.pick(items),) if items else ()
                e, cost = expression_of(machine, inputs, sequence), sequence_cost(machine, sequence)
            most = dice.pick([cost - 1, cost, cost, cost + 3])
            wanted = plain_search(machine, inputs, e, numbers, most)
            if wanted != "many":
                self.see(machine, inputs, e, numbers, most, wanted)
                key = len(wanted[1]) if wanted else None
                counts[key] = counts.get(key, 0) + 1
        self.assertEqual(sorted(counts, key=repr), [0, 1, 2, 3, None])
        self.assertGreater(min(counts.values()), 5, counts)

    def test_widths_and_inputs(self):
        machine = machine_of(ADD, NOT, width=8)
        self.see(machine, 1, ("sub", ("int", 255), A), (), 9, (1, (((1, ()), (0,)),)))
        machine = machine_of(rule("and", ("and", REG, REG), 1), NOT, width=1)
        e = ("and", ("var", 6), ("and", ("var", 7), ("var", 3)))
        self.see(machine, 8, e, (), 9, (2, (((0, ()), (3, 6)), ((0, ()), (7, 8)))))
        self.assertIsNone(least_sequence(machine, 8, ("and", e, ("and", A, B)), (), 9))

    def test_no_cheaper_one(self):
        # With the cost of the sequence found less one there is none.
        for seed in range(20):
            dice = Dice(seed)
            machine = random_machine(dice, 2)
            e = without_loads(dice, 2, 3, 2)
            found = least_sequence(machine, 2, e, (0, 1), 9)
            if found is not None:
                self.assertEqual(least_sequence(machine, 2, e, (0, 1), found[0]), found)
                self.assertIsNone(least_sequence(machine, 2, e, (0, 1), found[0] - 1))

    def test_compute_is_what_words_do(self):
        for op in PAIRS:
            machine = machine_of(rule("op", (op, REG, REG), 1), width=3)
            self.see(machine, 2, (op, A, B), (), 1, (1, (((0, ()), (0, 1)),)))
            self.assertEqual(sequence_value(machine, (((0, ()), (0, 1)),), (5, 3)), compute(op, 3, 5, 3))


if __name__ == "__main__":
    unittest.main()
