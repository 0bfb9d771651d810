"""[3.5] machines as text."""

import unittest

from leasttiles.errors import TextError
from leasttiles.machines import machine_faults
from leasttiles.machtext import read_machine, show_machine
from samples import MACHINE, MACHINE_TEXT, REG, Dice, nest

HEAD = "width 8\nregisters 4\nframe 0\ncosts 1 2 3\n"
TAIL = "cost 1 latency 1 unit 0"


def read_rule(line):
    """The rule that a line writes."""
    rules = read_machine(f"{HEAD}{line}\n")[4]
    assert len(rules) == 1
    return rules[0]


def spread(text):
    """The text with blanks between all tokens (but behind a minus), remarks and empty lines."""
    for sign in "[](),+*&|^~=$":
        text = text.replace(sign, f"  {sign} ")
    lines = text.split("\n")
    return "\n# first\n\n" + "\n   \n".join([f"   {line}  # [( {line}" for line in lines]) + "#"


class Texts(unittest.TestCase):
    def wrong(self, text, line):
        with self.assertRaises(TextError) as caught:
            read_machine(text)
        self.assertEqual(caught.exception.line, line, text)


class Show(Texts):
    def test_machine(self):
        self.assertEqual(show_machine(MACHINE), MACHINE_TEXT)
        self.assertEqual(show_machine((8, 4, 0, (1, 2, 3), ())), HEAD)

    def test_patterns(self):
        imm, kind = ("imm", -5, 300), ("nt", "k2")
        for pattern, text in (
            (REG, "reg"), (imm, "imm(-5, 300)"), (("imm", -9, -3), "imm(-9, -3)"), (kind, "$k2"), (("load", REG),
            "[reg]"),
            (("not", kind), "~$k2"), (("neg", imm), "-imm(-5, 300)"), (("add", REG, imm), "(reg + imm(-5, 300))"),
            (("sub", REG, kind), "(reg - $k2)"), (("mul", REG, REG), "(reg * reg)"), (("and", REG, REG),
            "(reg & reg)"),
            (("or", REG, REG), "(reg | reg)"), (("xor", REG, REG), "(reg ^ reg)"), (("shl", REG, REG),
            "(reg << reg)"),
            (("shr", REG, REG), "(reg >> reg)"), (("less", REG, REG), "(reg < reg)"),
            (("equal", REG, REG), "(reg = reg)"), (("neg", ("not", ("load", ("add", REG, REG)))), "-~[(reg + reg)]"),
        ):
            for result in ("reg", "k"):
                line = f"x {result} = {text} cost 7 latency 1 unit 0"
                rule = ("x", result, pattern, 7, 1, 0, ())
                self.assertEqual(show_machine((8, 4, 0, (1, 2, 3), (rule,))), f"{HEAD}{line}\n")
                self.assertEqual(read_rule(line), rule)

    def test_tops(self):
        for pattern, text in (
            (("write", REG), "write(reg)"), (("store", ("nt", "a"), ("imm", 0, 1)), "store($a, imm(0, 1))"),
            (("branch", ("less", REG, REG)), "branch((reg < reg))"), (("return", ("neg", REG)), "return(-reg)"),
        ):
            line = f"x none = {text} cost 0 latency 9 unit 3"
            rule = ("x", "", pattern, 0, 9, 3, ())
            self.assertEqual(show_machine((8, 4, 0, (1, 2, 3), (rule,))), f"{HEAD}{line}\n")
            self.assertEqual(read_rule(line), rule)

    def test_ties(self):
        for ties, text in (
            ((("same", 0),), " same 0"), ((("result", 3),), " result 3"), ((("needs", 1, 2),), " needs 1 2"),
            ((("needs", 1, 2), ("same", 1), ("result", 0), ("needs", 0, 0)), " needs 1 2 same 1 result 0 needs 0 0"),
        ):
            line = f"x reg = (reg + reg) {TAIL}{text}"
            rule = ("x", "reg", ("add", REG, REG), 1, 1, 0, ties)
            self.assertEqual(show_machine((8, 4, 0, (1, 2, 3), (rule,))), f"{HEAD}{line}\n")
            self.assertEqual(read_rule(line), rule)


class Read(Texts):
    def test_back(self):
        self.assertEqual(read_machine(MACHINE_TEXT), MACHINE)
        self.assertEqual(read_machine(spread(MACHINE_TEXT)), MACHINE)
        self.assertEqual(read_machine(MACHINE_TEXT[:-1]), MACHINE)
        for seed in range(150):
            machine = Dice(seed).machine(8, 12, ("a", "none1"))
            self.assertEqual(read_machine(show_machine(machine)), machine)
            self.assertEqual(read_machine(spread(show_machine(machine))), machine)

    def test_no_rules(self):
        self.assertEqual(read_machine(HEAD), (8, 4, 0, (1, 2, 3), ()))
        self.assertEqual(read_machine(HEAD[:-1] + "#\n\n"), (8, 4, 0, (1, 2, 3), ()))

    def test_no_more_blanks_than_needed(self):
        line = "x reg=(-$a-imm(-3,-2))cost 1 latency 2 unit 3 same 0"
        pattern = ("sub", ("neg", ("nt", "a")), ("imm", -3, -2))
        self.assertEqual(read_rule(line), ("x", "reg", pattern, 1, 2, 3, (("same", 0),)))

    def test_names_that_are_words_of_the_lines(self):
        for name in ("width", "registers", "frame", "costs", "cost", "latency", "unit", "imm", "none", "same",
        "needs",
                     "write", "store", "reg", "move", "return", "result"):
            self.assertEqual(read_rule(f"{name} reg = ~reg {TAIL}"), (name, "reg", ("not", REG), 1, 1, 0, ()))
        for kind in ("width", "cost", "imm", "same", "write", "store", "latency"):
            rule = ("x", kind, ("nt", kind), 1, 1, 0, ())
            self.assertEqual(read_rule(f"x {kind} = ${kind} {TAIL}"), rule)
            self.assertEqual(machine_faults((8, 4, 0, (1, 2, 3), (rule,))), [])

    def test_none_is_no_result(self):
        self.assertEqual(read_rule(f"x none = write(reg) {TAIL}")[1], "")
        self.assertEqual(read_rule(f"x none = reg {TAIL}")[1], "")

    def test_what_is_a_fault_only(self):
        text = "width -3\nregisters 999999\nframe -1\ncosts -1 -2 100\n"
        self.assertEqual(read_machine(text), (-3, 999999, -1, (-1, -2, 100), ()))
        for line, rule in (
            ("move r1 = $reg cost -1 latency 10 unit 4", ("move", "r1", ("nt", "reg"), -1, 10, 4, ())),
            (f"x reg = imm(5, -7) {TAIL} same -1 needs -2 -3 result 99",
             ("x", "reg", ("imm", 5, -7), 1, 1, 0, (("same", -1), ("needs", -2, -3), ("result", 99)))),
            (f"abcdefghijklmnop reg = write(reg) {TAIL}",
             ("abcdefghijklmnop", "reg", ("write", REG), 1, 1, 0, ())),
            (f"x reg = ~~~~~~~reg {TAIL}", ("x", "reg", nest("not", REG, 8), 1, 1, 0, ())),
            (f"x reg = imm(-999999, 999999) {TAIL}", ("x", "reg", ("imm", -999999, 999999), 1, 1, 0, ())),
            (f"x reg = imm(-0, 0) {TAIL}", ("x", "reg", ("imm", 0, 0), 1, 1, 0, ())),
        ):
            self.assertEqual(read_rule(line), rule)
        many = f"x reg = ~reg {TAIL}\n" * 70
        self.assertEqual(len(read_machine(HEAD + many)[4]), 70)

    def test_depth(self):
        for tag, opening, closing in (("not", "~", ""), ("neg", "-", ""), ("load", "[", "]")):
            for row in ("x reg = {}", "x none = write({})", "x none = store(reg, {})", "x none = store({}, reg)"):
                deep = row.format(opening * 19 + "reg" + closing * 19)
                self.assertIn(nest(tag, REG, 20), (read_rule(f"{deep} {TAIL}")[2], *read_rule(f"{deep} {TAIL}")[2]))
                deeper = row.format(opening * 20 + "reg" + closing * 20)
                self.wrong(f"{HEAD}{deeper} {TAIL}\n", 5)
        for sign in "([~-":
            self.wrong(f"{HEAD}x reg = {sign * 100000}reg {TAIL}\n", 5)


class Wrong(Texts):
    def test_head(self):
        lines = HEAD.split("\n")[:-1]
        for at, wrong in (
            (0, ("width", "width 08", "width - 8", "width --8", "width 8 8", "registers 4", "width8", "x reg = reg",
            "8",
                 "width 1234567", "width -1234567", "width +8", "width 8,", "width -08", "width -", "width 8-")),
            (1, ("registers", "register 4", "registers x", "frame 0", "registers 4 4", "width 8")),
            (2, ("frame", "frames 0", "frame 00", "frame 0 0", "costs 1 2 3")),
            (3, ("costs", "costs 1 2", "costs 1 2 3 4", "costs 1, 2, 3", "cost 1 2 3", "costs 1 2 x", "costs 1 - 2 3",
                 f"x reg = reg {TAIL}")),
        ):
            for line in wrong:
                text = "\n".join([*lines[:at], line, *lines[at + 1:]])
                self.wrong(text + f"\nx reg = ~reg {TAIL}\n", at + 1)

    def test_rules(self):
        for line in (
            "x", "x reg", "x reg =", "x reg = reg", "x reg = reg cost 1", "x reg = reg cost 1 latency 1",
            "x reg = reg cost 1 latency 1 unit", "x reg = reg latency 1 cost 1 unit 0", f"reg = reg {TAIL}",
            f"x = reg {TAIL}", f"x reg reg {TAIL}", f"x reg = {TAIL}", f"x reg == reg {TAIL}",
            f"x reg = reg reg {TAIL}",
            f"x y reg = reg {TAIL}", f"X reg = reg {TAIL}", f"x Reg = reg {TAIL}", f"1 reg = reg {TAIL}",
            f"1x reg = reg {TAIL}", f"x 1 = reg {TAIL}", f"x-y reg = reg {TAIL}", f"x reg = 5 {TAIL}",
            f"x reg = v0 {TAIL}", f"x reg = a {TAIL}", f"x reg = $ {TAIL}", f"x reg = $1 {TAIL}",
            f"x reg = $$a {TAIL}",
            f"x reg = imm {TAIL}", f"x reg = imm() {TAIL}", f"x reg = imm(1) {TAIL}", f"x reg = imm(1 2) {TAIL}",
            f"x reg = imm(1, 2, 3) {TAIL}", f"x reg = imm(1, 2 {TAIL}", f"x reg = imm(1, - 2) {TAIL}",
            f"x reg = imm(- 1, 2) {TAIL}", f"x reg = imm(--1, 2) {TAIL}", f"x reg = imm(01, 2) {TAIL}",
            f"x reg = imm(1, 1234567) {TAIL}", f"x reg = imm(1, x) {TAIL}", f"x reg = imm 1, 2 {TAIL}",
            f"x reg = (reg + reg {TAIL}", f"x reg = reg + reg {TAIL}", f"x reg = (reg) {TAIL}",
            f"x reg = (reg < < reg) {TAIL}", f"x reg = (reg > reg) {TAIL}", f"x reg = [reg {TAIL}",
            f"x reg = ~ {TAIL}",
            f"x reg = -5 {TAIL}", f"x reg = (reg + 1) {TAIL}", f"x none = write {TAIL}", f"x none = write() {TAIL}",
            f"x none = write reg {TAIL}", f"x none = write(reg, reg) {TAIL}", f"x none = store(reg) {TAIL}",
            f"x none = store(reg reg) {TAIL}", f"x none = store(reg, reg, reg) {TAIL}", f"x none = branch(reg {TAIL}",
            f"x none = write(write(reg)) {TAIL}", f"x none = ~write(reg) {TAIL}",
            f"x none = (write(reg) + reg) {TAIL}",
            f"x none = [store(reg, reg)] {TAIL}", f"x none = go(reg) {TAIL}", f"x reg = reg {TAIL} same",
            f"x reg = reg {TAIL} same 0 0", f"x reg = reg {TAIL} same x", f"x reg = reg {TAIL} result",
            f"x reg = reg {TAIL} needs 0", f"x reg = reg {TAIL} needs 0 0 0", f"x reg = reg {TAIL} keeps 0",
            f"x reg = reg {TAIL} same 00", f"x reg = reg {TAIL} 5", f"x reg = reg {TAIL} same - 1",
            f"x reg = reg {TAIL},",
            f"x reg = reg {TAIL} unit 0", "x reg = reg cost 1.5 latency 1 unit 0",
            "x reg = reg cost - 1 latency 1 unit 0",
            f"x reg = reg {TAIL}\t", f"x reg = load reg {TAIL}", "width 8", "costs 1 2 3", "?", "\u00e9",
            f"x \"\" = reg {TAIL}",
        ):
            self.wrong(f"{HEAD}x reg = ~reg {TAIL}\n{line}\nx reg = ~reg {TAIL}\n", 6)

    def test_first_wrong_line(self):
        self.wrong("# x\n\nwidth 8\n\nregister 4\nframe\n", 5)
        self.wrong(f"{HEAD}\n?\n?\n", 6)

    def test_too_early(self):
        lines = HEAD.split("\n")[:-1]
        for many in range(4):
            text = "\n".join(lines[:many])
            self.wrong(text, many + 1)
            if many > 0:
                self.wrong(text + "\n", many + 1)
                self.wrong(text + "\n\n", many + 2)
                self.wrong(text + "\n# x", many + 2)
        self.wrong("\n\n", 3)


if __name__ == "__main__":
    unittest.main()
