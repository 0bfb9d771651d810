"""[4.1], [4.2], [4.3] and [4.5]: covers and those of least cost."""

import copy
import unittest

import oracle
from leasttiles.covers import cover_cost, holes, least_cover, uncovered
from leasttiles.machines import machine_faults
from samples import MACHINE, REG, Dice, nest, wrap

X, Y = ("var", 0), ("var", 1)
FIVE = ("int", 5)
NAMES = [row[0] for row in MACHINE[4]]


def rule(result, pattern, cost=1, name="x"):
    return (name, result, pattern, cost, 1, 0, ())


def with_rules(*rules, width=8):
    """A machine of rules, whose names are made here."""
    named = tuple((f"x{k}", *row[1:]) for k, row in enumerate(rules))
    return (width, 4, 0, (1, 1, 1), named)


def cover(name, *covers):
    """The cover by a rule of MACHINE."""
    return (NAMES.index(name), covers)


# a and b lead to one another and to reg, at costs above 0.
CIRCLE = with_rules(
    rule("a", ("nt", "b"), 1),
    rule("b", ("nt", "a"), 1),
    rule("a", ("imm", 0, 9), 5),
    rule("reg", ("nt", "b"), 2),
    rule("a", REG, 1),
)


class Holes(unittest.TestCase):
    def check(self, pattern, tree, expected, result="reg", width=8):
        machine = with_rules(rule("reg", ("neg", ("neg", REG))), rule(result, pattern), width=width)
        self.assertEqual(holes(machine, 1, tree), expected, (pattern, tree))

    def test_leaves(self):
        for e in (X, FIVE, ("load", X), ("add", X, Y), ("not", FIVE)):
            self.check(REG, e, (("reg", e),), "a")
            self.check(("nt", "b"), e, (("b", e),))
        for tree in (("write", X), ("store", X, Y), ("branch", X), ("return", X)):
            self.check(REG, tree, None, "a")
            self.check(("nt", "b"), tree, None)
            self.check(("imm", 0, 255), tree, None)

    def test_imm(self):
        for word, least, most, right in (
            (5, 5, 5, True), (5, 0, 4, False), (5, 6, 9, False), (255, -1, -1, True), (255, 0, 254, False),
            (254, -1, 0, False), (128, -128, 127, True), (127, -128, 127, True), (128, -127, 127, False),
            (0, -256, -256, True), (0, 1, 65536, False), (255, -32768, 65536, True),
        ):
            self.check(("imm", least, most), ("int", word), () if right else None)
        self.check(("imm", -1, -1), ("int", 65535), (), width=16)
        self.check(("imm", -1, -1), ("int", 255), None, width=16)
        for e in (X, ("load", FIVE), ("neg", FIVE), ("add", FIVE, FIVE)):
            self.check(("imm", -32768, 65536), e, None)

    def test_ops(self):
        self.check(("load", REG), ("load", X), (("reg", X),))
        self.check(("load", REG), ("neg", X), None)
        self.check(("load", REG), X, None)
        self.check(("neg", REG), ("not", X), None)
        self.check(("add", REG, REG), ("add", Y, X), (("reg", Y), ("reg", X)))
        self.check(("add", REG, REG), ("sub", Y, X), None)
        self.check(("add", REG, ("imm", 0, 9)), ("add", FIVE, X), None)
        self.check(("add", ("imm", 0, 9), REG), ("add", FIVE, X), (("reg", X),))
        self.check(("add", ("imm", 0, 9), ("imm", 0, 9)), ("add", FIVE, FIVE), ())

    def test_order_of_holes(self):
        pattern = ("add", ("sub", ("nt", "a"), ("imm", 0, 9)), ("mul", REG, ("load", ("nt", "b"))))
        tree = ("add", ("sub", ("neg", X), FIVE), ("mul", Y, ("load", ("not", Y))))
        self.check(pattern, tree, (("a", ("neg", X)), ("reg", Y), ("b", ("not", Y))))
        self.check(pattern, ("add", ("sub", X, Y), ("mul", Y, ("load", Y))), None)
        self.check(pattern, ("add", ("sub", X, FIVE), ("mul", Y, Y)), None)

    def test_tops(self):
        e = ("less", X, Y)
        for tree, pattern, expected in (
            (("write", e), ("write", REG), (("reg", e),)), (("write", e), ("branch", REG), None),
            (("branch", e), ("branch", ("less", REG, REG)), (("reg", X), ("reg", Y))),
            (("return", e), ("return", ("nt", "a")), (("a", e),)),
            (("store", X, e), ("store", REG, ("nt", "a")), (("reg", X), ("a", e))),
            (("return", X), ("return", ("less", REG, REG)), None), (X, ("write", REG), None),
        ):
            self.check(pattern, tree, expected, "")

    def test_many(self):
        fitting = 0
        for seed in range(200):
            dice = Dice(seed)
            machine = dice.machine(4, 20)
            tree = dice.small_tree(4, 5)
            for k in range(20):
                expected = oracle.fits(4, machine[4][k][2], tree)
                fitting += expected is not None
                self.assertEqual(holes(machine, k, tree), None if expected is None else tuple(expected))
        self.assertGreater(fitting, 200)


class Cost(unittest.TestCase):
    STORE = ("store", ("add", X, FIVE), ("int", 200))
    COVER = cover("st", cover("adra", X), cover("srci"))

    def test_covers(self):
        for tree, result, value, cost in (
            (X, "reg", X, 0), (FIVE, "reg", cover("li"), 1), (FIVE, "src", cover("srci"), 0),
            (FIVE, "src", cover("srcr", cover("li")), 2), (X, "src", cover("srcr", X), 1),
            (FIVE, "reg", cover("use", cover("srci")), 1), (X, "reg", cover("use", cover("srcr", X)), 2),
            (("add", X, FIVE), "reg", cover("add", X, cover("li")), 2), (self.STORE, "", self.COVER, 4),
            (self.STORE, "", cover("st", cover("adra", X), cover("srcr", cover("li"))), 6),
            (("add", X, X), "adr", cover("adrr", cover("add", X, X)), 2),
        ):
            self.assertEqual(cover_cost(MACHINE, tree, result, value), cost, (tree, value))
            for other in ("reg", "", "src", "adr", "other"):
                if other != result:
                    self.assertIsNone(cover_cost(MACHINE, tree, other, value))

    def test_something_changed(self):
        for value in (
            cover("st", cover("adrr", X), cover("srci")), cover("st", cover("adra", Y), cover("srci")),
            cover("st", cover("adra", X)), cover("st", cover("adra", X), cover("srci"), cover("srci")),
            cover("st", cover("srci"), cover("adra", X)), cover("wr", X), cover("st", X, cover("srci")),
            cover("st", cover("adra", X), cover("li")), cover("st", cover("adra"), cover("srci")),
            cover("st", cover("adra", cover("use", Y)), cover("srci")),
            cover("st", cover("adra", X), cover("srcr", Y)), cover("st", cover("adra", X), cover("srcr")),
            cover("st", cover("adra", FIVE), cover("srci")), (99, self.COVER[1]), (-10, self.COVER[1]),
        ):
            self.assertIsNone(cover_cost(MACHINE, self.STORE, "", value), value)

    def test_plain_values(self):
        for tree in (X, FIVE):
            for value in (
                None, True, 0, "var", (), ("var",), ("var", 1), ("var", True), ("var", False), ("var", None),
                ("var", 0, 0), ["var", 0], ("int", 5), ("reg", 0), (0,), (0, (), ()), [0, ()], (0, []), (0, None),
                (True, ()), (False, ()), (None, ()), ("0", ()), (len(NAMES), ()), (-18, ()), (10 ** 30, ()),
                (-1, (cover("srcr", X),)), (-1, (cover("srci"),)), ("17", (cover("srci"),)),
                (0, ((),)), (0, (X,)), wrap(1, 100000), ("var", wrap(1, 100000)), (17, (wrap(1, 100000),)),
                (wrap(1, 100000), ()), (17, wrap(1, 100000)), (17, (None,)), (17, [(4, ())]), (17, ([4, ()],)),
            ):
                self.assertIsNone(cover_cost(MACHINE, tree, "reg", value), value)
        self.assertIsNone(cover_cost(MACHINE, ("var", 1), "reg", ("var", True)))
        self.assertIsNone(cover_cost(MACHINE, FIVE, "reg", (False, ())))

    def test_circle(self):
        value = (2, ())
        for times in range(1, 4):
            value = (0, ((1, (value,)),))
            self.assertEqual(cover_cost(CIRCLE, FIVE, "a", value), 5 + 2 * times)
            self.assertEqual(cover_cost(CIRCLE, FIVE, "reg", (3, ((1, (value,)),))), 8 + 2 * times)
        self.assertIsNone(cover_cost(CIRCLE, FIVE, "a", (0, ((0, (value,)),))))

    def test_very_long_way_round(self):
        value = (2, ())
        for _ in range(50000):
            value = (0, ((1, (value,)),))
        self.assertEqual(cover_cost(CIRCLE, FIVE, "a", value), 5 + 100000)
        self.assertIsNone(cover_cost(CIRCLE, X, "a", value))

    def test_deep_tree(self):
        tree, value = ("int", 1), (1, ())
        for _ in range(19):
            tree, value = ("not", tree), (0, (value,))
        machine = with_rules(rule("reg", ("not", REG), 3), rule("reg", ("imm", 1, 1), 2))
        self.assertEqual(cover_cost(machine, tree, "reg", value), 59)
        self.assertEqual(least_cover(machine, tree, "reg"), (59, value))


class Least(unittest.TestCase):
    def test_sample(self):
        for tree, result, expected in (
            (X, "reg", (0, X)), (X, "src", (1, cover("srcr", X))), (FIVE, "reg", (1, cover("li"))),
            (FIVE, "src", (0, cover("srci"))), (("int", 200), "src", (0, cover("srci"))), (X, "", None),
            (X, "other", None), (Cost.STORE, "", (4, Cost.COVER)), (Cost.STORE, "reg", None),
            (("sub", X, FIVE), "reg", (2, cover("sub2", X, cover("srci")))),
            (("or", X, Y), "reg", None), (("add", X, ("xor", X, Y)), "reg", None), (("not", X), "reg", None),
            (("branch", ("less", X, Y)), "", (2, cover("brl", X, Y))),
            (("branch", X), "", (3, cover("br", cover("srcr", X)))),
            (("load", ("add", X, FIVE)), "reg", (4, cover("ld", cover("adra", X)))),
            (("load", FIVE), "reg", (5, cover("ld", cover("adrr", cover("li"))))),
            (("write", ("or", X, Y)), "", None),
        ):
            self.assertEqual(least_cover(MACHINE, tree, result), expected, (tree, result))

    def test_of_equal_cost_the_least_rule(self):
        twice = (
            rule("reg", ("add", REG, REG), 2),
            rule("reg", ("imm", 0, 255), 1),
            rule("reg", ("add", REG, ("imm", 0, 9)), 3),
        )
        tree = ("add", X, FIVE)
        self.assertEqual(least_cover(with_rules(*twice), tree, "reg"), (3, (0, (X, (1, ())))))
        self.assertEqual(least_cover(with_rules(*twice[::-1]), tree, "reg"), (3, (0, (X,))))
        same = (rule("reg", ("imm", 0, 9), 4),) * 3
        self.assertEqual(least_cover(with_rules(rule("reg", ("neg", REG)), *same), FIVE, "reg"), (4, (1, ())))

    def test_variable_ahead_of_rules(self):
        machine = with_rules(rule("reg", ("nt", "a"), 1), rule("a", REG, 1), rule("reg", ("neg", REG), 0))
        self.assertEqual(least_cover(machine, X, "reg"), (0, X))
        self.assertEqual(least_cover(machine, ("neg", X), "reg"), (0, (2, (X,))))

    def test_rules_of_one_leaf(self):
        self.assertEqual(least_cover(CIRCLE, FIVE, "a"), (5, (2, ())))
        self.assertEqual(least_cover(CIRCLE, FIVE, "b"), (6, (1, ((2, ()),))))
        self.assertEqual(least_cover(CIRCLE, FIVE, "reg"), (8, (3, ((1, ((2, ()),)),))))
        self.assertEqual(least_cover(CIRCLE, X, "reg"), (0, X))
        self.assertEqual(least_cover(CIRCLE, X, "a"), (1, (4, (X,))))
        self.assertEqual(least_cover(CIRCLE, X, "b"), (2, (1, ((4, (X,)),))))
        self.assertIsNone(least_cover(CIRCLE, ("int", 10), "a"))
        self.assertIsNone(least_cover(CIRCLE, ("neg", X), "reg"))
        self.assertEqual(least_cover(with_rules(rule("a", ("nt", "a"), 1), rule("a", REG, 2)), X, "a"), (2, (1,
            (X,))))

    def test_a_later_rule_makes_an_earlier_one_cheaper(self):
        machine = with_rules(
            rule("reg", ("nt", "a"), 1), rule("a", ("nt", "b"), 1), rule("b", ("imm", 0, 9), 0), rule("reg", ("imm",
            0, 9), 3),
        )
        self.assertEqual(least_cover(machine, FIVE, "reg"), (2, (0, ((1, ((2, ()),)),))))

    def test_long_chain_on_each_part(self):
        kinds = ("a", "b", "c", "d")
        rules = [rule("reg", ("nt", "d"), 1), rule("a", ("neg", REG), 1), rule("a", ("imm", 7, 7), 1)]
        rules += [rule(kind, ("nt", below), 1) for below, kind in zip(kinds, kinds[1:])]
        machine = with_rules(*rules)
        tree = nest("neg", ("int", 7), 20)
        cost, value = least_cover(machine, tree, "reg")
        self.assertEqual(cost, 100)
        self.assertEqual(cover_cost(machine, tree, "reg", value), 100)

    def test_many(self):
        found = 0
        for seed in range(400):
            dice = Dice(seed)
            width = dice.pick((1, 3, 8))
            kinds = dice.pick(((), ("a",), ("a", "b"), ("a", "b", "c", "d")))
            machine = dice.rich_machine(width, dice.number(4, 20), kinds)
            self.assertEqual(machine_faults(machine), [])
            tree = dice.small_tree(width, 4)
            for result in ("reg", "", "a", "b"):
                cost = oracle.least(machine, oracle.copied(tree), result)
                got = least_cover(machine, tree, result)
                if cost is None:
                    self.assertIsNone(got, seed)
                    continue
                found += 1
                self.assertEqual(got, (cost, oracle.chosen(machine, tree, result)), seed)
                self.assertEqual(cover_cost(machine, tree, result, got[1]), cost)
        self.assertGreater(found, 400)

    def test_nothing_is_changed(self):
        machine, tree = copy.deepcopy(MACHINE), copy.deepcopy(Cost.STORE)
        least_cover(machine, tree, "")
        holes(machine, 8, tree)
        cover_cost(machine, tree, "", Cost.COVER)
        self.assertEqual((machine, tree), (MACHINE, Cost.STORE))


class Uncovered(unittest.TestCase):
    BAD = ("or", X, Y)

    def function(self, *blocks):
        return (8, 2, blocks)

    def test_each_item_and_end(self):
        bad = self.BAD
        body = (
            ("set", 0, bad), ("set", 0, X), ("write", bad), ("write", X), ("store", bad, X), ("store", X, bad),
            ("store", X, X),
        )
        blocks = (
            (7, body, ("go", 3)), (3, body[:1], ("if", bad, 9, 9)), (9, (), ("return", bad)),
            (4, body[1:2], ("if", X, 9, 5)), (5, (), ("return", X)),
        )
        self.assertEqual(
            uncovered(MACHINE, self.function(*blocks)),
            [(3, -1), (3, 0), (7, 0), (7, 2), (7, 4), (7, 5), (9, -1)],
        )

    def test_none(self):
        blocks = ((0, (("set", 3, ("add", X, FIVE)),), ("if", ("less", X, Y), 1, 1)), (1, (), ("return", X)))
        self.assertEqual(uncovered(MACHINE, self.function(*blocks)), [])

    def test_no_rules(self):
        function = self.function((0, (("set", 0, X), ("set", 0, FIVE)), ("go", 1)), (1, (), ("return", X)))
        self.assertEqual(uncovered(with_rules(), function), [(0, 1), (1, -1)])

    def test_by_the_tree_of_each(self):
        machine = with_rules(rule("", ("branch", ("imm", 0, 255))), rule("", ("return", REG)), rule("a", ("imm", 0,
            255)))
        function = self.function(
            (0, (("set", 0, FIVE), ("write", X)), ("if", FIVE, 1, 2)), (1, (), ("if", X, 2, 2)), (2, (), ("return",
            X)),
        )
        self.assertEqual(uncovered(machine, function), [(0, 0), (0, 1), (1, -1)])

    def test_many(self):
        for seed in range(100):
            dice = Dice(seed)
            function = dice.function(3, 4)
            machine = dice.rich_machine(function[0], 30)
            expected = []
            for label, body, end in function[2]:
                rows = [(index, item) for index, item in enumerate(body)] + [(-1, end)]
                for index, item in rows:
                    tree = {"set": item[-1], "if": ("branch", item[1])}.get(item[0], item)
                    result = "reg" if item[0] == "set" else ""
                    if item[0] != "go" and least_cover(machine, tree, result) is None:
                        expected.append((label, index))
            self.assertEqual(uncovered(machine, function), sorted(expected))


if __name__ == "__main__":
    unittest.main()
