"""[3.1] and [3.2]: the form of machines and their faults."""

import unittest

from leasttiles.machines import machine_faults
from samples import MACHINE, REG, Dice, nest, wrap

FORM = [(-1, "form")]
ADD = ("add", "reg", ("add", REG, REG), 1, 1, 0, ())
IMM = ("imm", 0, 9)


def with_rules(*rules):
    return (8, 4, 8, (1, 2, 3), rules)


def rule(**fields):
    """The rule ADD with other fields."""
    names = ("name", "result", "pattern", "cost", "latency", "unit", "ties")
    return tuple(fields.get(name, worth) for name, worth in zip(names, ADD))


class Faults(unittest.TestCase):
    def check(self, machine, expected):
        self.assertEqual(machine_faults(machine), expected, machine)

    def check_rule(self, expected, **fields):
        """A machine with this rule behind another one has these codes."""
        first = ("first", "reg", ("sub", REG, REG), 1, 1, 0, ())
        self.check(with_rules(first, rule(**fields)), [(1, code) for code in expected])


class Form(Faults):
    def test_without_faults(self):
        self.check(MACHINE, [])
        self.check(with_rules(), [])
        self.check(with_rules(ADD), [])
        for seed in range(200):
            self.check(Dice(seed).machine(8, 20), [])

    def test_no_machines(self):
        for value in (
            None, True, 0, "machine", (), [], (8,), MACHINE[:4], (*MACHINE, 0), list(MACHINE), wrap(1, 100000),
            (8, 4, 8, [1, 2, 3], ()), (8, 4, 8, (1, 2), ()), (8, 4, 8, (1, 2, 3, 4), ()), (8, 4, 8, 1, ()),
            (8, 4, 8, (1, 2, 3), []), (8, 4, 8, (1, 2, 3), None), (8, 4, 8, (1, 2, 3), "add"), "abcde",
            (8, 4, 8, (1, 2, None), ()), (8, 4, 8, (1, 2, True), ()), (8, 4, 8, (1, -1, 3), ()),
            (8, 4, 8, (100, 2, 3), ()), (8, 4, 8, None, ()), (8, 4, (8,), (1, 2, 3), ()),
        ):
            self.check(value, FORM)

    def test_limits(self):
        for at, good, bad in (
            (0, (1, 16), (0, 17, -8, True, None, "8")),
            (1, (2, 16), (0, 1, 17, -2, True, None)),
            (2, (0, 64), (-1, 65, False, True, None)),
        ):
            for number in good:
                self.check((*MACHINE[:at], number, *MACHINE[at + 1:4], ()), [])
            for number in bad:
                self.check((*MACHINE[:at], number, *MACHINE[at + 1:4], ()), FORM)
        for at in range(3):
            for number, expected in ((0, []), (99, []), (-1, FORM), (100, FORM), (True, FORM), (False, FORM)):
                costs = [1, 1, 1]
                costs[at] = number
                self.check((8, 4, 8, tuple(costs), ()), expected)

    def test_many_rules(self):
        rules = tuple((f"x{number}", *ADD[1:]) for number in range(61))
        self.check(with_rules(*rules[:60]), [])
        self.check(with_rules(*rules), FORM)

    def test_nothing_else_is_told(self):
        self.check((8, 4, 65, (1, 2, 3), (5, ADD, ADD)), FORM)


class Rules(Faults):
    def test_items(self):
        for value in (
            None, True, 7, "add", (), ADD[:6], (*ADD, 0), list(ADD), (ADD,), wrap(1, 100000), [wrap(1, 100000)],
        ):
            self.check(with_rules(value), [(0, "rule")])

    def test_names(self):
        for name in ("a", "z", "a1", "abcdefghijkl", "a23456789012", "r", "s", "ra", "r1a", "s9s", "none", "write",
                     "imm", "cost", "same", "width", "rx1", "regs", "moves", "store", "load", "less", "t1", "needs"):
            self.check_rule([], name=name)
        for name in (
            "", "abcdefghijklm", "a234567890123", "1a", "1", "A", "aB", "a_b", "a b", "a-", "\u00e9", "a\u00b2",
            "a\n",
            "reg", "move", "spill", "fill", "block", "go", "branch", "return", "params", "r0", "r1", "r15", "r007",
            "s0", "s63", "r12345678901", "s99", None, True, 5, ("add",), ["add"], "$a", "a.", "r\u0663",
        ):
            self.check_rule(["rule"], name=name)

    def test_results(self):
        for name in ("a", "r", "sx", "none", "abcdefghijkl", "write"):
            self.check_rule([], result=name)
        for name in (
            "abcdefghijklm", "1a", "A", "move", "r1", "s1", "go", "params", "branch", None, True, 0, (), ("reg",),
            ["reg"], "Reg", " ",
        ):
            self.check_rule(["rule"], result=name)

    def test_fields(self):
        for pattern in (None, "reg", ["reg"], 5, True, ["add", REG, REG]):
            self.check_rule(["rule"], pattern=pattern)
        for number in (0, 1, 99):
            self.check_rule([], cost=number)
        for number in (-1, 100, True, False, None, "1"):
            self.check_rule(["rule"], cost=number)
        for number in (1, 9):
            self.check_rule([], latency=number)
        for number in (0, 10, True, None):
            self.check_rule(["rule"], latency=number)
        for number in (0, 3):
            self.check_rule([], unit=number)
        for number in (-1, 4, False, True, None):
            self.check_rule(["rule"], unit=number)
        for ties in ([], None, 0, "", [("same", 0)]):
            self.check_rule(["rule"], ties=ties)

    def test_kinds_of_operands(self):
        self.check_rule([], result="a", latency=1, unit=0, ties=())
        self.check_rule(["rule"], result="a", latency=2)
        self.check_rule(["rule"], result="a", unit=1)
        self.check_rule(["rule"], result="a", ties=(("needs", 0, 0),))
        self.check_rule(["rule"], result="a", ties=(5,))

    def test_nothing_else_is_told_of_it(self):
        self.check_rule(["rule"], cost=100, pattern=(), ties=(5,))
        self.check_rule(["rule"], name="first", cost=-1)
        self.check_rule(["rule"], latency=0, pattern=REG, cost=0)


class Twice(Faults):
    def test_twice(self):
        self.check(with_rules(ADD, ADD), [(1, "twice")])
        self.check(with_rules(ADD, ADD, ADD), [(1, "twice"), (2, "twice")])
        self.check(with_rules(ADD, rule(result="a")), [(1, "twice")])
        self.check_rule(["twice"], name="first")

    def test_of_a_rule_with_the_fault_rule_nothing_counts(self):
        self.check(with_rules(rule(cost=100), ADD), [(0, "rule")])
        self.check(with_rules(rule(cost=100), ADD, ADD), [(0, "rule"), (2, "twice")])

    def test_a_rule_with_another_fault_counts(self):
        self.check(with_rules(rule(pattern=()), ADD), [(0, "pattern"), (1, "twice")])
        self.check(with_rules(ADD, rule(pattern=())), [(1, "pattern"), (1, "twice")])

    def test_a_kind_may_have_the_name_of_a_rule(self):
        self.check(with_rules(rule(result="add"), ("b", "reg", ("nt", "add"), 1, 1, 0, ())), [])


class Patterns(Faults):
    def test_right(self):
        for pattern in (
            IMM, ("imm", -32768, 65536), ("imm", 65536, 65536), ("imm", -32768, -32768), ("nt", "a"), ("load", REG),
            ("not", IMM), ("neg", ("nt", "a")), ("load", ("add", REG, IMM)),
        ):
            self.check_rule([], pattern=pattern)
            self.check_rule([], pattern=pattern, result="a")
        for op in ("add", "sub", "mul", "and", "or", "xor", "shl", "shr", "less", "equal"):
            self.check_rule([], pattern=(op, REG, IMM))

    def test_wrong(self):
        for pattern in (
            (), ("reg", 1), ("imm",), ("imm", 1), ("imm", 2, 1), ("imm", -32769, 0), ("imm", 0, 65537),
            ("imm", 65537, 65537), ("imm", True, 5), ("imm", 0, True), ("imm", False, True), ("imm", None, 1),
            ("imm", 0, 1, 2), ("nt",), ("nt", ""), ("nt", "reg"), ("nt", "r1"), ("nt", "move"), ("nt", "A"),
            ("nt", "abcdefghijklm"), ("nt", 5), ("nt", "a", "b"), ("load",), ("load", REG, REG), ("not", REG, REG),
            ("add", REG), ("add", REG, REG, REG), ("add", REG, None), ("add", None, REG), ("plus", REG, REG),
            ("int", 5), ("var", 5), ("load", "reg"), ("load", "a"), ("nx", "a"), ("int", 0, 5), ("add", 0, 5),
            ("load", ["reg"]), ("neg", ()), (5,), (None, REG), (True,),
            (("reg",),), ("write",), ("add", REG, ("write", REG)), ("load", ("return", REG)), (["reg"],), ("Reg",),
            wrap(1, 100000), nest("not", REG, 100000),
        ):
            self.check_rule(["pattern"], pattern=pattern)
            self.check_rule(["pattern"], pattern=pattern, result="a")
            self.check_rule(["pattern"], pattern=pattern, result="")

    def test_tops(self):
        for pattern in (
            ("write", REG), ("store", REG, REG), ("branch", REG), ("return", REG), ("write", IMM),
            ("store", ("nt", "a"), IMM), ("branch", ("less", REG, REG)),
        ):
            self.check_rule([], result="", pattern=pattern)
            self.check_rule(["pattern"], result="reg", pattern=pattern)
            self.check_rule(["pattern"], result="a", pattern=pattern)
        for pattern in (
            ("write", REG, REG), ("store", REG), ("store", REG, REG, REG), ("branch",), ("branch", REG, REG),
            ("return", 5), ("write", ("write", REG)), ("store", REG, ("store", REG, REG)), ("go", REG), ("go",),
            ("add", REG, REG), IMM, ("load", REG), ("set", REG), ("if", REG),
        ):
            self.check_rule(["pattern"], result="", pattern=pattern)

    def test_depth(self):
        for leaf in (REG, IMM, ("nt", "a")):
            self.check_rule([], pattern=nest("not", leaf, 6))
            self.check_rule(["pattern"], pattern=nest("not", leaf, 7))
            self.check_rule([], pattern=("add", leaf, nest("load", leaf, 5)))
            self.check_rule(["pattern"], pattern=("add", leaf, nest("load", leaf, 6)))
            self.check_rule(["pattern"], pattern=("add", nest("load", leaf, 6), leaf))
            self.check_rule([], result="", pattern=("write", nest("not", leaf, 5)))
            self.check_rule(["pattern"], result="", pattern=("write", nest("not", leaf, 6)))
            self.check_rule([], result="", pattern=("store", leaf, nest("not", leaf, 5)))
            self.check_rule(["pattern"], result="", pattern=("store", leaf, nest("not", leaf, 6)))


class Ties(Faults):
    # Its leaves are a reg, an imm, a kind and another reg.
    PATTERN = ("add", ("sub", REG, IMM), ("and", ("nt", "a"), REG))

    def ties(self, *ties):
        return {"pattern": self.PATTERN, "ties": ties}

    def test_right(self):
        for ties in (
            (), (("same", 0),), (("same", 3),), (("result", 0),), (("result", 3),), (("needs", 0, 0),),
            (("needs", 3, 3),), (("same", 0), ("result", 1), ("needs", 0, 2), ("needs", 3, 2)),
            (("needs", 3, 1), ("needs", 0, 1)), (("result", 1), ("same", 3)),
        ):
            self.check_rule([], **self.ties(*ties))

    def test_wrong(self):
        for tie in (
            None, 5, True, "same", (), ["same", 0], ("same",), ("same", 0, 0), ("same", 1), ("same", 2), ("same", 4),
            ("same", -1), ("same", True), ("same", False), ("same", None), ("result",), ("result", 4), ("result", -1),
            ("result", True), ("result", 0, 0), ("needs", 0), ("needs", 1, 0), ("needs", 2, 0), ("needs", 4, 0),
            ("needs", -1, 0), ("needs", 0, 4), ("needs", 0, -1), ("needs", 0, True), ("needs", False, 0),
            ("needs", 0, 0, 0), ("keeps", 0), ("same", wrap(1, 100000)), wrap(1, 100000), (("same",), 0),
        ):
            self.check_rule(["tie"], **self.ties(tie))
            self.check_rule(["tie"], **self.ties(("needs", 3, 0), tie))

    def test_twice(self):
        for ties in (
            (("same", 0), ("same", 0)), (("same", 0), ("same", 3)), (("result", 0), ("result", 0)),
            (("result", 0), ("result", 1)), (("needs", 0, 1), ("needs", 0, 1)), (("needs", 0, 1), ("needs", 0, 2)),
            (("needs", 3, 1), ("same", 0), ("needs", 3, 1)),
        ):
            self.check_rule(["tie"], **self.ties(*ties))

    def test_without_a_result(self):
        for tie, expected in ((("same", 0), ["tie"]), (("result", 0), ["tie"]), (("needs", 0, 0), [])):
            self.check_rule(expected, result="", pattern=("write", REG), ties=(tie,))

    def test_nothing_beside_a_wrong_pattern(self):
        self.check_rule(["pattern"], pattern=("plus", REG), ties=(5,))
        self.check_rule(["pattern"], pattern=nest("not", REG, 7), ties=(("same", 4),))


class Chains(Faults):
    def test_chain(self):
        self.check_rule([], result="a", pattern=REG, cost=1)
        self.check_rule(["chain"], result="a", pattern=REG, cost=0)
        self.check_rule(["chain"], result="reg", pattern=REG, cost=0)
        self.check_rule(["chain"], result="reg", pattern=REG, cost=5)
        self.check_rule([], result="reg", pattern=("nt", "a"), cost=1)
        self.check_rule(["chain"], result="reg", pattern=("nt", "a"), cost=0)
        self.check_rule([], result="a", pattern=("nt", "a"), cost=1)
        self.check_rule(["chain"], result="b", pattern=("nt", "a"), cost=0)
        self.check_rule([], result="a", pattern=IMM, cost=0)
        self.check_rule([], result="reg", pattern=("neg", REG), cost=0)

    def test_beside_the_others(self):
        self.check_rule(["chain", "pattern"], result="", pattern=REG, cost=0)
        self.check_rule(["pattern"], result="", pattern=REG, cost=1)
        self.check_rule(["chain", "pattern"], result="", pattern=("nt", "a"), cost=0)
        self.check_rule(["pattern"], result="a", pattern=("nt", "reg"), cost=0)
        self.check_rule(["pattern"], result="a", pattern=("nt", "A"), cost=0)
        self.check_rule(["chain", "tie"], pattern=REG, ties=(("same", 1),))
        self.check_rule(["chain", "tie", "twice"], name="first", pattern=REG, ties=(5,))

    def test_order(self):
        machine = with_rules(5, rule(name="b", pattern=()), rule(name="b", pattern=REG, ties=(5,)), ADD)
        self.check(machine, [(0, "rule"), (1, "pattern"), (2, "chain"), (2, "tie"), (2, "twice")])


if __name__ == "__main__":
    unittest.main()
