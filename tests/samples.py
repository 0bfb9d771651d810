"""Functions, machines and trees for the tests, and a way to make many of them from a seed."""

import random

from leasttiles.words import PAIRS, SINGLES, top


def nest(tag, leaf, deep):
    """A tuple (tag, (tag, .. leaf)) that nests so deep, the leaf 1 deep."""
    value = leaf
    for _ in range(deep - 1):
        value = (tag, value)
    return value


def wrap(item, deep):
    """A tuple ((.. item ..),) with so many tuples around the item."""
    for _ in range(deep):
        item = (item,)
    return item


ADDER = (8, 2, ((0, (("set", 2, ("add", ("var", 0), ("var", 1))),), ("return", ("var", 2))),))

# 3 + 2 + 1, written on the way.
COUNTDOWN = (
    8,
    1,
    (
        (5, (), ("go", 7)),
        (7, (), ("if", ("var", 0), 1, 9)),
        (
            1,
            (
                ("set", 1, ("add", ("var", 1), ("var", 0))),
                ("write", ("var", 1)),
                ("set", 0, ("sub", ("var", 0), ("int", 1))),
            ),
            ("go", 7),
        ),
        (9, (("store", ("int", 18), ("var", 1)),), ("return", ("load", ("int", 2)))),
    ),
)

REG = ("reg",)
BYTE = ("imm", -128, 127)

# A machine with every kind of pattern, result and tie.
MACHINE = (
    8,
    4,
    8,
    (1, 3, 2),
    (
        ("li", "reg", ("imm", 0, 255), 1, 1, 0, ()),
        ("add", "reg", ("add", REG, REG), 1, 1, 0, ()),
        ("sub2", "reg", ("sub", REG, ("nt", "src")), 2, 1, 1, (("same", 0),)),
        ("srcr", "src", REG, 1, 1, 0, ()),
        ("srci", "src", BYTE, 0, 1, 0, ()),
        ("ld", "reg", ("load", ("nt", "adr")), 3, 4, 2, ()),
        ("adra", "adr", ("add", REG, ("imm", 0, 15)), 1, 1, 0, ()),
        ("adrr", "adr", REG, 1, 1, 0, ()),
        ("st", "", ("store", ("nt", "adr"), ("nt", "src")), 3, 1, 2, ()),
        ("wr", "", ("write", REG), 2, 1, 3, (("needs", 0, 1),)),
        ("br", "", ("branch", ("nt", "src")), 2, 1, 0, ()),
        ("brl", "", ("branch", ("less", REG, REG)), 2, 1, 0, ()),
        ("ret", "", ("return", REG), 1, 1, 0, (("needs", 0, 0),)),
        ("mulq", "reg", ("mul", REG, REG), 5, 6, 3, (("result", 2), ("needs", 0, 2), ("needs", 1, 3))),
        ("neg", "reg", ("neg", REG), 1, 1, 0, ()),
        ("nand", "reg", ("not", ("and", REG, ("nt", "src"))), 2, 2, 1, ()),
        ("shli", "reg", ("shl", REG, ("imm", 0, 7)), 1, 1, 0, (("same", 0), ("result", 3))),
        ("use", "reg", ("nt", "src"), 1, 1, 0, ()),
    ),
)

MACHINE_TEXT = """width 8
registers 4
frame 8
costs 1 3 2
li reg = imm(0, 255) cost 1 latency 1 unit 0
add reg = (reg + reg) cost 1 latency 1 unit 0
sub2 reg = (reg - $src) cost 2 latency 1 unit 1 same 0
srcr src = reg cost 1 latency 1 unit 0
srci src = imm(-128, 127) cost 0 latency 1 unit 0
ld reg = [$adr] cost 3 latency 4 unit 2
adra adr = (reg + imm(0, 15)) cost 1 latency 1 unit 0
adrr adr = reg cost 1 latency 1 unit 0
st none = store($adr, $src) cost 3 latency 1 unit 2
wr none = write(reg) cost 2 latency 1 unit 3 needs 0 1
br none = branch($src) cost 2 latency 1 unit 0
brl none = branch((reg < reg)) cost 2 latency 1 unit 0
ret none = return(reg) cost 1 latency 1 unit 0 needs 0 0
mulq reg = (reg * reg) cost 5 latency 6 unit 3 result 2 needs 0 2 needs 1 3
neg reg = -reg cost 1 latency 1 unit 0
nand reg = ~(reg & $src) cost 2 latency 2 unit 1
shli reg = (reg << imm(0, 7)) cost 1 latency 1 unit 0 same 0 result 3
use reg = $src cost 1 latency 1 unit 0
"""


class Dice:
    """Makes functions, machines and trees from a seed."""

    def __init__(self, seed):
        self.source = random.Random(seed)

    def pick(self, row):
        return self.source.choice(row)

    def number(self, least, most):
        return self.source.randint(least, most)

    def expression(self, width, deep, variables=4):
        if deep <= 1 or self.number(0, 3) == 0:
            if self.number(0, 1):
                return ("int", self.number(0, top(width)))
            return ("var", self.number(0, variables - 1))
        kind = self.number(0, 9)
        if kind == 0:
            return ("load", self.expression(width, deep - 1, variables))
        if kind < 3:
            return (self.pick(SINGLES), self.expression(width, deep - 1, variables))
        first = self.expression(width, deep - 1, variables)
        return (self.pick(PAIRS), first, self.expression(width, deep - 1, variables))

    def tree(self, width, deep):
        kind = self.number(0, 7)
        e = self.expression(width, deep)
        if kind == 0:
            return ("store", e, self.expression(width, deep))
        if kind < 4:
            return (("write", "branch", "return")[kind - 1], e)
        return e

    def statement(self, width, deep):
        kind = self.number(0, 3)
        e = self.expression(width, deep)
        if kind == 0:
            return ("write", e)
        if kind == 1:
            return ("store", e, self.expression(width, deep))
        return ("set", self.number(0, 3), e)

    def function(self, deep=4, blocks=5):
        width = self.number(1, 16)
        labels = self.source.sample(range(1000), self.number(1, blocks))
        rows = []
        for label in labels:
            body = tuple(self.statement(width, deep) for _ in range(self.number(0, 4)))
            rows.append((label, body, self.end(width, deep, labels[1:])))
        return (width, self.number(0, 6), tuple(rows))

    def end(self, width, deep, targets):
        kind = self.number(0, 3) if targets else 0
        if kind == 0:
            return ("return", self.expression(width, deep))
        if kind == 1:
            return ("go", self.pick(targets))
        return ("if", self.expression(width, deep), self.pick(targets), self.pick(targets))

    def pattern(self, deep, kinds):
        if deep <= 1 or self.number(0, 1):
            kind = self.number(0, 2 if kinds else 1)
            if kind == 0:
                return REG
            if kind == 2:
                return ("nt", self.pick(kinds))
            least = self.number(-20, 20)
            return ("imm", least, self.number(least, 300))
        if self.number(0, 2) == 0:
            return (self.pick(("load", *SINGLES)), self.pattern(deep - 1, kinds))
        # Few ops, so that patterns fit trees often.
        return (self.pick(("add", "sub")), self.pattern(deep - 1, kinds), self.pattern(deep - 1, kinds))

    def rule(self, name, kinds, deep):
        result = self.pick(("reg", "", *kinds))
        pattern = self.pattern(deep, kinds)
        if result == "":
            top_op = self.pick(("write", "store", "branch", "return"))
            pattern = (top_op, pattern)
            if top_op == "store":
                pattern = (*pattern, self.pattern(deep, kinds))
        cost = self.number(1 if pattern[0] in ("reg", "nt") else 0, 4)
        if result in kinds:
            return (name, result, pattern, cost, 1, 0, ())
        if result == "reg" and pattern == REG:
            pattern = ("neg", REG)
        return (name, result, pattern, cost, self.number(1, 9), self.number(0, 3), ())

    def machine(self, width, rules, kinds=("a", "b"), deep=3):
        rows = tuple(self.rule(f"x{number}", kinds, deep) for number in range(rules))
        return (width, self.number(2, 16), self.number(0, 64), (1, 2, 3), rows)

    def rich_machine(self, width, rules, kinds=("a", "b")):
        """A machine that also has, most often, the rules that cover the trees of small_tree."""
        rows = list(self.machine(width, rules, kinds)[4])
        patterns = [("reg", ("imm", 0, 300))]
        patterns += [("reg", (op, REG)) for op in ("load", "neg", "not")]
        patterns += [("reg", (op, REG, REG)) for op in ("add", "sub")]
        patterns += [("", (op, REG)) for op in ("write", "branch", "return")]
        patterns.append(("", ("store", REG, REG)))
        for number, (result, pattern) in enumerate(patterns):
            if self.number(0, 9) > 0:
                at = self.number(0, len(rows))
                rows.insert(at, (f"y{number}", result, pattern, self.number(0, 6), 1, 0, ()))
        return (width, 4, 8, (1, 2, 3), tuple(rows))

    def small_expression(self, width, deep):
        """An expression over few ops, which patterns of machine() fit often."""
        if deep <= 1 or self.number(0, 3) == 0:
            if self.number(0, 1):
                return ("int", self.number(0, top(width)))
            return ("var", self.number(0, 2))
        if self.number(0, 3) == 0:
            return (self.pick(("load", "neg", "not")), self.small_expression(width, deep - 1))
        first = self.small_expression(width, deep - 1)
        return (self.pick(("add", "sub")), first, self.small_expression(width, deep - 1))

    def small_tree(self, width, deep):
        kind = self.number(0, 7)
        e = self.small_expression(width, deep)
        if kind == 0:
            return ("store", e, self.small_expression(width, deep))
        if kind < 4:
            return (("write", "branch", "return")[kind - 1], e)
        return e
