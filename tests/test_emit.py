"""[6.1] wide code, and point (2) of [0.1]: it costs no more than its trees must."""

import copy
import unittest

import oracle
from code_samples import (
    ADD, ADRA, BRL, LI, MULQ, NEG, RET, SHLI, SRCI, SRCR, WR, Plain, full_machine, looping_function, names_of, tile,
    untied, with_rules, words_for,
)
from leasttiles.coderun import run_code
from leasttiles.codes import code_faults, cost_of
from leasttiles.covers import least_cover, uncovered
from leasttiles.emit import emit
from leasttiles.errors import TilesError, Uncovered
from leasttiles.run import run
from leasttiles.text import read_function
from samples import ADDER, COUNTDOWN, MACHINE, REG, Dice, nest


def function(*lines, width=8, params=2):
    """The function of one block with these lines, or of several."""
    text = "\n".join(lines)
    head = "" if lines[0].startswith("block") else "block 0\n"
    tail = "" if "return" in text else "\nreturn v0"
    return read_function(f"width {width}\nparams {params}\n{head}{text}{tail}\n")


def tree_of(item):
    """The tree of an item and its result."""
    if item[0] == "set":
        return item[2], "reg"
    return ((("branch", item[1]) if item[0] == "if" else item), "")


class Writer:
    """Wide code from covers that are handed in, by the plain words of the document."""

    def __init__(self, machine, cover_of):
        self.machine, self.cover_of, self.name = machine, cover_of, 100

    def parts(self, tree, cover):
        """The tile and the operands at the top of a cover; the instructions ahead of it are written."""
        k, covers = cover
        holes = oracle.fits(self.machine[0], self.machine[4][k][2], tree)
        below = [self.hole(part, inner) for (_, part), inner in zip(holes, covers)]
        tiles = tuple(found[0] for found in below if found[0] is not None)
        operands = []

        def walk(pattern, part):
            if pattern[0] == "imm":
                low = [n for n in (part[1], part[1] - 2 ** self.machine[0]) if pattern[1] <= n <= pattern[2]]
                operands.append(low[0])
            elif pattern[0] in ("reg", "nt"):
                operands.extend(below.pop(0)[1])
            else:
                for inner, more in zip(pattern[1:], part[1:]):
                    walk(inner, more)

        walk(self.machine[4][k][2], tree)
        return (k, tiles), tuple(operands)

    def hole(self, tree, cover):
        if cover[0] == "var":
            return None, (cover[1],)
        made, operands = self.parts(tree, cover)
        if self.machine[4][cover[0]][1] != "reg":
            return made, operands
        self.rows.append(("tile", made, self.name, operands))
        self.name += 1
        return None, (self.name - 1,)

    def block(self, block):
        label, body, end = block
        self.rows = []
        for item in body:
            tree, result = tree_of(item)
            cover = self.cover_of(tree, result)
            if cover[0] == "var":
                self.rows.append(("move", item[1], cover[1]))
                continue
            made, operands = self.parts(tree, cover)
            self.rows.append(("tile", made, item[1] if item[0] == "set" else -1, operands))
        if end[0] != "go":
            tree, result = tree_of(end)
            made, operands = self.parts(tree, self.cover_of(tree, result))
            end = (tree[0], made, operands, *end[2:])
        return (label, tuple(self.rows), end)

    def code(self, function_):
        return (tuple(range(function_[1])), tuple([self.block(block) for block in function_[2]]))


def any_cover(dice, machine, tree, result, left=12):
    """Some cover of a tree, not only a least one."""
    if tree[0] == "var" and result == "reg" and (left < 6 or dice.number(0, 3)):
        return tree
    rows = [(k, pairs) for k, pairs in oracle.all_holes(machine, tree, result)
            if left > 6 or machine[4][k][2][0] not in ("reg", "nt")]
    dice.source.shuffle(rows)
    for k, pairs in rows:
        found = [any_cover(dice, machine, part, word, left - 1) for word, part in pairs]
        if None not in found:
            return (k, tuple(found))
    return tree if tree[0] == "var" and result == "reg" else None


class Emit(unittest.TestCase):
    def rows(self, *lines, machine=MACHINE, **more):
        """The instructions of the entry."""
        code = emit(machine, function(*lines, **more))
        self.assertEqual(code[0], tuple(range(more.get("params", 2))))
        return code[1][0][1]

    def test_adder(self):
        self.assertEqual(emit(MACHINE, ADDER), (
            (0, 1), ((0, (("tile", ADD, 2, (0, 1)),), ("return", RET, (2,))),)))

    def test_set(self):
        self.assertEqual(self.rows("v5 = 7"), (("tile", LI, 5, (7,)),))
        self.assertEqual(self.rows("v5 = (v0 + v1)"), (("tile", ADD, 5, (0, 1)),))
        self.assertEqual(self.rows("v0 = (v0 + v0)"), (("tile", ADD, 0, (0, 0)),))
        self.assertEqual(self.rows("v5 = v1", "v5 = v5", "v99 = v5"), (("move", 5, 1), ("move", 5, 5), ("move", 99, 5)))

    def test_order_of_instructions_and_names(self):
        self.assertEqual(self.rows("v5 = ((v0 + 1) * -(v1 * v0))", "write (v5 + -v1)", "v1 = -(v0 + v1)"), (
            ("tile", LI, 100, (1,)), ("tile", ADD, 101, (0, 100)), ("tile", MULQ, 102, (1, 0)),
            ("tile", NEG, 103, (102,)), ("tile", MULQ, 5, (101, 103)),
            ("tile", NEG, 104, (1,)), ("tile", ADD, 105, (5, 104)), ("tile", WR, -1, (105,)),
            ("tile", ADD, 106, (0, 1)), ("tile", NEG, 1, (106,)),
        ))

    def test_names_through_blocks(self):
        code = emit(MACHINE, function(
            "block 5", "write 1", "if (v0 < -v1) 9 3", "block 9", "v7 = -(v0 + 2)", "go 3", "block 3",
            "write (v7 + 5)", "return -v7",
        ))
        self.assertEqual(code, ((0, 1), (
            (5, (("tile", LI, 100, (1,)), ("tile", WR, -1, (100,)), ("tile", NEG, 101, (1,))),
             ("branch", BRL, (0, 101), 9, 3)),
            (9, (("tile", LI, 102, (2,)), ("tile", ADD, 103, (0, 102)), ("tile", NEG, 7, (103,))), ("go", 3)),
            (3, (("tile", LI, 104, (5,)), ("tile", ADD, 105, (7, 104)), ("tile", WR, -1, (105,)),
                 ("tile", NEG, 106, (7,))), ("return", RET, (106,))),
        )))

    def test_kinds_of_operands(self):
        self.assertEqual(self.rows("v5 = (v0 - v1)", "v5 = (v0 - 3)", "v5 = (v0 - (v1 + v0))"), (
            ("tile", tile("sub2", SRCR), 5, (0, 1)), ("tile", tile("sub2", SRCI), 5, (0, 3)),
            ("tile", ADD, 100, (1, 0)), ("tile", tile("sub2", SRCR), 5, (0, 100)),
        ))
        self.assertEqual(self.rows("[(v0 + 3)] = v1", "v3 = [(-v0 + 15)]", "[v1] = 4"), (
            ("tile", tile("st", ADRA, SRCR), -1, (0, 3, 1)), ("tile", NEG, 100, (0,)),
            ("tile", tile("ld", ADRA), 3, (100, 15)), ("tile", tile("st", tile("adrr"), SRCI), -1, (1, 4)),
        ))

    def test_kinds_within_kinds(self):
        machine = with_rules(MACHINE, rules=(
            ("take", "reg", ("xor", ("nt", "a"), ("nt", "a")), 1, 1, 0, ()),
            ("both", "a", ("add", ("nt", "a"), ("sub", ("nt", "b"), REG)), 0, 1, 0, ()),
            ("leaf", "a", REG, 1, 1, 0, ()), ("one", "b", ("imm", -9, 9), 0, 1, 0, ()),
            ("up", "b", ("not", ("nt", "a")), 0, 1, 0, ()), ("neg", "reg", ("neg", REG), 1, 1, 0, ()),
            ("ret", "", ("return", REG), 0, 1, 0, ()),
        ))
        code = emit(machine, function("v5 = ((v0 + (~(-v1 + (253 - v0)) - v1)) ^ -v2)"))
        leaf, one = (2, ()), (3, ())
        inner = (1, (leaf, one))
        made = (0, ((1, (leaf, (4, (inner,)))), leaf))
        self.assertEqual(code[1][0][1], (
            ("tile", (5, ()), 100, (1,)), ("tile", (5, ()), 101, (2,)), ("tile", made, 5, (0, 100, -3, 0, 1, 101)),
        ))

    def test_imm_less_a_width(self):
        self.assertEqual(self.rows("v5 = (v0 - 255)", "v5 = (v0 - 128)", "v5 = (v0 - 127)", "v5 = 255"), (
            ("tile", tile("sub2", SRCI), 5, (0, -1)), ("tile", tile("sub2", SRCI), 5, (0, -128)),
            ("tile", tile("sub2", SRCI), 5, (0, 127)), ("tile", LI, 5, (255,)),
        ))
        # Both fit: the word itself stands.
        machine = with_rules(MACHINE, rules=(("li", "reg", ("imm", -300, 300), 1, 1, 0, ()), *MACHINE[4][1:]))
        self.assertEqual(self.rows("v5 = 255", "v5 = 0", machine=machine), (
            ("tile", LI, 5, (255,)), ("tile", LI, 5, (0,))))

    def test_write_store_and_ends(self):
        code = emit(MACHINE, function("block 1", "write v0", "[v0] = v1", "go 4", "block 4", "if v1 4 6", "block 6",
                                      "if (v0 < v1) 4 8", "block 8", "if 200 8 9", "block 9", "return v1"))
        self.assertEqual(code[1], (
            (1, (("tile", WR, -1, (0,)), ("tile", tile("st", tile("adrr"), SRCR), -1, (0, 1))), ("go", 4)),
            (4, (), ("branch", tile("br", SRCR), (1,), 4, 6)),
            (6, (), ("branch", BRL, (0, 1), 4, 8)),
            (8, (), ("branch", tile("br", SRCI), (-56,), 8, 9)),
            (9, (), ("return", RET, (1,))),
        ))

    def test_params(self):
        for params in range(7):
            self.assertEqual(emit(MACHINE, function("return 5", params=params))[0], tuple(range(params)))

    def test_ties_are_left(self):
        self.assertEqual(self.rows("v5 = (v0 << 3)", "v5 = (v0 * v0)"), (
            ("tile", SHLI, 5, (0, 3)), ("tile", MULQ, 5, (0, 0))))

    def test_deep(self):
        e = nest("not", ("var", 0), 20)
        machine = with_rules(MACHINE, rules=(("not", "reg", ("not", REG), 1, 1, 0, ()), MACHINE[4][12]))
        code = emit(machine, (8, 1, ((0, (), ("return", e)),)))
        self.assertEqual(code[1][0][1], tuple(("tile", (0, ()), 100 + at, (0 if at == 0 else 99 + at,))
                                              for at in range(19)))
        self.assertEqual(code[1][0][2], ("return", (1, ()), (118,)))

    def test_nothing_is_changed(self):
        machine, function_ = copy.deepcopy(MACHINE), copy.deepcopy(COUNTDOWN)
        emit(machine, function_)
        self.assertEqual((machine, function_), (MACHINE, COUNTDOWN))


class NotCovered(unittest.TestCase):
    def path(self, *lines):
        with self.assertRaises(Uncovered) as caught:
            emit(MACHINE, function(*lines))
        self.assertIsInstance(caught.exception, TilesError)
        self.assertEqual(caught.exception.path, uncovered(MACHINE, function(*lines))[0])
        return caught.exception.path

    def test_paths(self):
        self.assertEqual(self.path("v1 = 1", "write (v0 ^ v1)"), (0, 1))
        self.assertEqual(self.path("v1 = (v0 ^ v1)", "v1 = (v0 ^ v1)"), (0, 0))
        self.assertEqual(self.path("return (v0 ^ v1)"), (0, -1))
        self.assertEqual(self.path("write (v0 ^ 1)", "return (v0 ^ v1)"), (0, -1))
        self.assertEqual(self.path("v1 = 1", "[(v0 ^ 1)] = 4", "[4] = ~v1", "return 1"), (0, 1))

    def test_the_first_label(self):
        self.assertEqual(self.path("block 9", "write ~v0", "go 5", "block 5", "v1 = 1", "v2 = ~v0", "go 7",
                                   "block 7", "return ~v0"), (5, 1))

    def test_no_rules(self):
        with self.assertRaises(Uncovered):
            emit(with_rules(MACHINE, rules=()), ADDER)
        code = emit(with_rules(MACHINE, rules=()), (8, 0, ((3, (("set", 4, ("var", 5)),), ("go", 4)), (4, (), ("go", 4)))))
        self.assertEqual(code, ((), ((3, (("move", 4, 5),), ("go", 4)), (4, (), ("go", 4)))))


class Many(unittest.TestCase):
    def each(self, many, ties=True):
        for seed in range(many):
            dice = Dice(seed)
            machine = full_machine(dice, dice.number(1, 16), 8, 8, ties)
            yield dice, machine, looping_function(dice, machine[0], 5, dice.number(1, 5), dice.number(1, 5))

    def test_against_a_plain_writer(self):
        for _, machine, function_ in self.each(60):
            plain = Writer(machine, lambda tree, result: least_cover(machine, tree, result)[1])
            self.assertEqual(emit(machine, function_), plain.code(function_))

    def test_least_covers_of_the_document(self):
        for seed in range(60):
            dice = Dice(seed)
            machine = dice.rich_machine(8, 8)
            body = tuple(("set", 1, dice.small_expression(8, 4)) for _ in range(3))
            function_ = (8, 2, ((0, body, ("go", 1)), (1, body[:1], ("go", 1))))
            if uncovered(machine, function_):
                continue
            plain = Writer(machine, lambda tree, result: oracle.chosen(machine, tree, result))
            self.assertEqual(emit(machine, function_), plain.code(function_))

    def test_costs(self):
        for dice, machine, function_ in self.each(60):
            total = 0
            for _, body, end in function_[2]:
                for item in [*body, end]:
                    if item[0] != "go":
                        cost, cover = least_cover(machine, *tree_of(item))
                        total += machine[3][0] if cover[0] == "var" else cost
            code = emit(machine, function_)
            self.assertEqual(cost_of(machine, code), total)
            for _ in range(3):
                other = Writer(machine, lambda tree, result: any_cover(dice, machine, tree, result)).code(function_)
                self.assertGreaterEqual(cost_of(machine, other), total)

    def test_other_covers_do_the_same(self):
        for dice, machine, function_ in self.each(20):
            other = Writer(machine, lambda tree, result: any_cover(dice, machine, tree, result)).code(function_)
            inputs = words_for(dice, machine[0], function_[1])
            self.assertEqual(run_code(machine, other, inputs, fuel=20), run(function_, inputs, fuel=20))

    def test_runs(self):
        ended = 0
        for dice, machine, function_ in self.each(150):
            code = emit(machine, function_)
            self.assertEqual([block[0] for block in code[1]], [block[0] for block in function_[2]])
            for _ in range(4):
                inputs = words_for(dice, machine[0], function_[1])
                fuel = dice.number(0, 25)
                expected = run(function_, inputs, fuel=fuel)
                self.assertEqual(Plain(machine, code, inputs, fuel).outcome(), expected)
                self.assertEqual(run_code(machine, code, inputs, fuel=fuel), expected)
                ended += expected[1] != ("none",)
        self.assertGreater(ended, 100)

    def test_form(self):
        for _, machine, function_ in self.each(50, ties=False):
            code = emit(machine, function_)
            wider = with_rules(machine, registers=1 + max(names_of(machine, code), default=0))
            self.assertEqual(code_faults(wider, code), [])


class Machine(unittest.TestCase):
    def test_countdown(self):
        machine = untied(with_rules(MACHINE, registers=200))
        code = emit(machine, COUNTDOWN)
        self.assertEqual(code_faults(machine, code), [])
        self.assertEqual(run_code(machine, code, (3,), fuel=99), ([3, 5, 6], ("return", 6), 9))


if __name__ == "__main__":
    unittest.main()
