"""[5.5] code as text."""

import copy
import re
import unittest

from code_samples import ADD, ADRA, ADRR, BRL, LI, RET, SRCI, SRCR, WR, any_code, full_machine, tile
from leasttiles.codes import code_faults
from leasttiles.errors import TextError
from leasttiles.listing import read_code, show_code
from samples import MACHINE, REG, Dice

CODE = ((1, 0), (
    (7, (
        ("tile", LI, 3, (255,)), ("tile", ADD, 2, (0, 1)), ("move", 1, 2), ("spill", 7, 0), ("fill", 3, 7),
        ("tile", WR, -1, (1,)), ("tile", tile("st", ADRA, SRCI), -1, (0, 15, -128)),
        ("tile", tile("sub2", SRCR), 1, (1, 3)), ("tile", tile("ld", ADRR), 0, (3,)),
    ), ("branch", BRL, (0, 3), 0, 9999)),
    (0, (), ("branch", tile("br", SRCI), (-5,), 7, 7)),
    (9999, (), ("go", 12)),
    (12, (("tile", tile("use", SRCI), 0, (0,)),), ("return", RET, (0,))),
))

TEXT = """params r1 r0
block 7
  r3 = li(255)
  r2 = add(r0, r1)
  r1 = r2
  s7 = r0
  r3 = s7
  wr(r1)
  st[adra, srci](r0, 15, -128)
  r1 = sub2[srcr](r1, r3)
  r0 = ld[adrr](r3)
  branch brl(r0, r3) 0 9999
block 0
  branch br[srci](-5) 7 7
block 9999
  go 12
block 12
  r0 = use[srci](0)
  return ret(r0)
"""

# Tiles within tiles within tiles.
NESTED = (8, 4, 0, (1, 1, 1), (
    ("take", "reg", ("sub", ("nt", "a"), ("nt", "a")), 1, 1, 0, ()),
    ("both", "a", ("add", ("nt", "a"), ("nt", "b")), 1, 1, 0, ()),
    ("leaf", "a", REG, 1, 1, 0, ()),
    ("one", "b", ("imm", -9, 9), 0, 1, 0, ()),
    ("up", "b", ("not", ("nt", "a")), 0, 1, 0, ()),
    ("rx5", "", ("return", REG), 1, 1, 0, ()),
    ("s5x", "reg", ("neg", REG), 1, 1, 0, ()),
))


def rows_of(text, machine=MACHINE):
    """The instructions of a block that has these lines."""
    return read_code(machine, f"params\nblock 5\n{text}\ngo 5\n")[1][0][1]


def spread(text):
    """The text with blanks between all tokens, remarks and empty lines."""
    lines = [re.sub(r"([a-z0-9]+|<<|>>|[^ ])", r"  \1 ", line) for line in text.split("\n")]
    return "\n# first\n\n" + "\n   \n".join([f"   {line}# [( {line}" for line in lines]) + "#"


class Show(unittest.TestCase):
    def test_text(self):
        self.assertEqual(code_faults(MACHINE, CODE), [])
        self.assertEqual(show_code(MACHINE, CODE), TEXT)

    def test_params(self):
        for params, line in (((), "params"), ((3,), "params r3"), ((2, 0, 1), "params r2 r0 r1")):
            self.assertEqual(show_code(MACHINE, (params, ((4, (), ("go", 4)),))), f"{line}\nblock 4\n  go 4\n")

    def test_tiles_within_tiles(self):
        a = (2, ())
        b = (1, ((1, (a, (3, ()))), (4, (a,))))
        code = ((), ((0, (("tile", (0, (b, a)), 3, (0, -9, 1, 2)), ("tile", (6, ()), 1, (2,))),
                      ("return", (5, ()), (1,))),))
        text = "params\nblock 0\n  r3 = take[both[both[leaf, one], up[leaf]], leaf](r0, -9, r1, r2)\n" \
               "  r1 = s5x(r2)\n  return rx5(r1)\n"
        self.assertEqual(code_faults(NESTED, code), [])
        self.assertEqual(show_code(NESTED, code), text)
        self.assertEqual(read_code(NESTED, text), code)

    def test_nothing_is_changed(self):
        code, machine = copy.deepcopy(CODE), copy.deepcopy(MACHINE)
        show_code(machine, code)
        read_code(machine, TEXT)
        self.assertEqual((code, machine), (CODE, MACHINE))


class Read(unittest.TestCase):
    def test_text(self):
        self.assertEqual(read_code(MACHINE, TEXT), CODE)
        self.assertEqual(read_code(MACHINE, TEXT[:-1]), CODE)

    def test_blanks(self):
        self.assertEqual(read_code(MACHINE, spread(TEXT)), CODE)
        tight = TEXT.replace("  ", "").replace(" = ", "=").replace(", ", ",").replace(") ", ")")
        self.assertEqual(read_code(MACHINE, tight), CODE)

    def test_random_code(self):
        for seed in range(150):
            dice = Dice(seed)
            machine = full_machine(dice, 8, dice.number(2, 16), 5)
            code = any_code(dice, machine, range(machine[1]), range(5))
            text = show_code(machine, code)
            self.assertEqual(read_code(machine, text), code)
            self.assertEqual(read_code(machine, spread(text)), code)

    def test_wide_code(self):
        code = ((0, 1), ((0, (("tile", ADD, 100, (0, 123456)),), ("return", RET, (100,))),))
        self.assertEqual(read_code(MACHINE, show_code(MACHINE, code)), code)

    def test_what_only_does_not_fit(self):
        for line, row in (
            ("r99 = add(r77, r0)", ("tile", ADD, 99, (77, 0))),
            ("s999999 = r999999", ("spill", 999999, 999999)),
            ("r0 = s64", ("fill", 0, 64)),
            ("r5 = r6", ("move", 5, 6)),
            ("add(r0, r1)", ("tile", ADD, -1, (0, 1))),
            ("r1 = wr(r1)", ("tile", WR, 1, (1,))),
            ("wr(r0)", ("tile", WR, -1, (0,))),
            ("r0 = ret(r0)", ("tile", RET, 0, (0,))),
            ("r0 = li(999999)", ("tile", LI, 0, (999999,))),
            ("r0 = li(-1)", ("tile", LI, 0, (-1,))),
            ("r0 = li(-0)", ("tile", LI, 0, (0,))),
            ("r0 = add(r0)", ("tile", ADD, 0, (0,))),
            ("r0 = add(r0, r1, 5)", ("tile", ADD, 0, (0, 1, 5))),
            ("r0 = add()", ("tile", ADD, 0, ())),
            ("r0 = add[li](r0, r1)", ("tile", (1, ((0, ()),)), 0, (0, 1))),
            ("r0 = ld[srci, srcr](r0, r1)", ("tile", tile("ld", SRCI, SRCR), 0, (0, 1))),
            ("r0 = ld(r0)", ("tile", tile("ld"), 0, (0,))),
            ("srcr(r1)", ("tile", SRCR, -1, (1,))),
        ):
            self.assertEqual(rows_of(line), (row,), line)
        for line, end in (
            ("go 77", ("go", 77)), ("go 999999", ("go", 999999)),
            ("branch add(r0, r1) 3 4", ("branch", ADD, (0, 1), 3, 4)), ("return br[srcr](r0)",
             ("return", tile("br", SRCR), (0,))), ("branch ret(r0) 5 5", ("branch", RET, (0,), 5, 5)),
        ):
            self.assertEqual(read_code(MACHINE, f"params r9 r9\nblock 123456\n{line}\nblock 123456\n{line}"),
                             ((9, 9), ((123456, (), end),) * 2))

    def test_deep_tiles(self):
        many = 50000
        text = f"params\nblock 0\nr0 = {'both[' * many}leaf{', one]' * many}(r0)\ngo 0\n"
        here = read_code(NESTED, text)[1][0][1][0][1]
        for _ in range(many):
            k, (here, other) = here
            assert (k, other) == (1, (3, ()))
        self.assertEqual(here, (2, ()))


class Wrong(unittest.TestCase):
    def wrong(self, text, line, machine=MACHINE):
        with self.assertRaises(TextError) as caught:
            read_code(machine, text)
        self.assertEqual(caught.exception.line, line, text)

    def test_params(self):
        for line in ("param", "params 0", "params r0, r1", "params s0", "params r", "params r01", "params r1234567",
                     "params r0 x", "params r-1", "r0", "block 0", "params R0", "params = r0", "params r0 r1 3", "go 5",
                     "paramsr0", "params r 0"):
            self.wrong(f"{line}\nblock 5\n?\n", 1)
            self.wrong(f"# x\n\n{line}\nblock 5\n", 3)

    def test_block_lines(self):
        for line in ("block", "block x", "block -1", "block 05", "block 5 5", "block r5", "blocks 5", "block5",
                     "block 1234567", "block 5:", "params", "params r0", "go 5", "r0 = r1", "return ret(r0)",
                     "block - 1", "add(r0, r1)", "?", "\t", "block 5\t"):
            self.wrong(f"params\n{line}\n?\n", 2)
            self.wrong(f"params\nblock 5\ngo 5\n{line}\ngo 5\n", 4)

    def test_instructions(self):
        for line in (
            "r0", "r0 =", "r0 = 5", "r0 r1", "r0 == r1", "r0 = r1 r2", "r0 = -r1", "= r1", "r0 = r01", "r00 = r1",
            "r0 = r1234567", "r1234567 = r0", "r0 = (r1)", "R0 = r1", "r0 = R1", "r = r1", "r0 = r", "s0 = s1",
            "s0 = 5", "s0", "s0 =", "s0 = s", "s01 = r0", "s0 = r0 r1", "s0 = add(r0, r1)", "s0 = li(5)", "r0 = s01",
            "r0 = s", "r0 = s1 s2", "5 = r0", "-5", "v0 = r1", "r0 = v1", "r0 = none(r1)", "none(r1)", "r0 = adds(r1)",
            "r0 = add", "add", "r0 = add(r0, r1", "r0 = add r0, r1", "r0 = add(r0 r1)", "r0 = add(r0,, r1)",
            "r0 = add(, r0)", "r0 = add(r0, r1,)", "r0 = add(r0, r1))", "r0 = add(r0, r1) r2", "r0 = add(r0, r01)",
            "r0 = add(r0, s1)", "r0 = add(r0, x)", "r0 = add(r0, -r1)", "r0 = add(r0, (r1))", "r0 = add(r0; r1)",
            "r0 = add[(r0, r1)", "r0 = add[](r0, r1)", "r0 = add](r0, r1)", "r0 = ld[adrr(r0)", "r0 = ld[adrr]",
            "r0 = ld[adrr,](r0)", "r0 = ld[,adrr](r0)", "r0 = ld[adrr]](r0)", "r0 = ld[[adrr]](r0)",
            "r0 = ld[none](r0)", "r0 = ld[adrr adrr](r0)", "r0 = ld[adrr(r0)]", "r0 = ld[r0]", "r0 = ld[5](r0)",
            "r0 = ld(adrr)(r0)", "r0 = ld[adrr](r0)[adrr]", "r0 = li(--5)", "r0 = li(05)", "r0 = li(+5)",
            "r0 = li(1234567)", "r0 = li(-1234567)", "r0 = li(-05)", "r0 = li(-)", "r0 = li(5-)", "r0 = li(5.)",
            "r0 = ADD(r0, r1)", "move r0 r1", "spill s0 r0", "fill r0 s0", "params r0", "block", "block 5", "reg(r0)",
            "r0 = move(r1)", "go(r0)", "write r0", "r0, r1 = r2", "r0 = r1 = r2", "[r0] = r1", "r0 = \u00e4(r1)",
            "r0 = r1\t", "r0 = add(r0,\tr1)", "tile", "r0 = reg", "$add(r0)", "r0 = add (r0, r1",
        ):
            self.wrong(f"params r0\nblock 5\nr0 = r1\n{line}\n?\n", 4)
            self.wrong(f"params r0\n\nblock 5\n  {line} # r0 = r1\n?\n", 4)

    def test_ends(self):
        for line in (
            "go", "go x", "go -1", "go 05", "go 5 6", "go r5", "go to 5", "Go 5", "go 1234567", "go5", "return",
            "return r0", "return 5", "return ret", "return ret(r0", "return ret(r0) 5", "return none(r0)", "return(r0)",
            "branch", "branch 5 6", "branch brl(r0, r1)", "branch brl(r0, r1) 5", "branch brl(r0, r1) 5 6 7",
            "branch brl(r0, r1) 5, 6", "branch brl(r0, r1) x 6", "branch brl(r0, r1) 5 -6", "branch brl(r0, r1) 05 6",
            "branch brl 5 6", "branch none(r0) 5 6", "branch 5 brl(r0, r1) 6", "branch r0 5 6", "if r0 5 6",
            "r0 = go 5", "r0 = return ret(r0)", "branch brl(r0, r1) r5 6", "go - 5",
        ):
            self.wrong(f"params\nblock 5\n{line}\n?\n", 3)

    def test_behind_an_end(self):
        for end in ("go 5", "return ret(r0)", "branch brl(r0, r1) 5 5"):
            for line in ("r0 = r1", "go 5", "return ret(r0)", "params", "?", "add(r0, r1)"):
                self.wrong(f"params\nblock 5\n{end}\n\n{line}\nblock 6\ngo 5\n", 5)

    def test_first_wrong_line(self):
        self.wrong("params\nblock 5\nr0 = none(r1)\ngo x\n?\n", 3)
        lines = TEXT.split("\n")[:-1]
        for at in range(len(lines)):
            self.wrong("\n".join([*lines[:at], "?", *lines[at + 1:]]), at + 1)
            self.wrong("\n".join([*lines[:at], lines[at] + " ?", *lines[at + 1:]]), at + 1)

    def test_names_of_another_machine(self):
        self.wrong(TEXT, 3, (*MACHINE[:4], MACHINE[4][1:]))
        self.wrong(TEXT, 4, (*MACHINE[:4], MACHINE[4][:1]))
        self.wrong("params\nblock 0\nreturn ret(r0)\n", 3, (*MACHINE[:4], ()))

    def test_too_early(self):
        lines = TEXT.split("\n")[:-1]
        whole = [at for at, line in enumerate(lines) if line.split()[0] in ("go", "branch", "return")]
        for many in range(len(lines)):
            text = "\n".join(lines[:many])
            if many - 1 in whole:
                self.assertEqual(len(read_code(MACHINE, text)[1]), whole.index(many - 1) + 1)
                continue
            self.wrong(text, many + 1)
            if many > 0:
                self.wrong(text + "\n", many + 1)
                self.wrong(text + "\n\n", many + 2)
                self.wrong(text + "\n# x", many + 2)
        self.wrong("\n\n", 3)

    def test_deep(self):
        for piece in ("add[", "add[li, ", "["):
            self.wrong(f"params\nblock 5\nr0 = {piece * 50000}\n?\n", 3)
        self.wrong(f"params\nblock 5\nr0 = {'add[' * 50000}li{']' * 50001}(r0)\n", 3)


if __name__ == "__main__":
    unittest.main()
