"""[2.4] functions as text."""

import unittest

from leasttiles.errors import TextError, TilesError
from leasttiles.functions import function_faults
from leasttiles.text import read_function, show_expression, show_function
from samples import ADDER, COUNTDOWN, Dice, nest

X, Y = ("var", 0), ("var", 12)

TEXT = """width 8
params 1
block 5
  go 7
block 7
  if v0 1 9
block 1
  v1 = (v1 + v0)
  write v1
  v0 = (v0 - 1)
  go 7
block 9
  [18] = v1
  return [2]
"""

HEAD = "width 8\nparams 0\nblock 0\n"


def spread(text):
    """The text with blanks between all tokens, remarks and empty lines."""
    for sign in "[]()+-*&|^~=":
        text = text.replace(sign, f"  {sign} ")
    lines = text.replace(" << ", "   <<  ").split("\n")
    return "\n# first\n\n" + "\n   \n".join([f"   {line}  # [( {line}" for line in lines]) + "#"


class Show(unittest.TestCase):
    def test_function(self):
        self.assertEqual(show_function(COUNTDOWN), TEXT)
        self.assertEqual(
            show_function(ADDER),
            "width 8\nparams 2\nblock 0\n  v2 = (v0 + v1)\n  return v2\n",
        )

    def test_expressions(self):
        for e, text in (
            (("int", 0), "0"), (("int", 65535), "65535"), (Y, "v12"), (("load", X), "[v0]"), (("not", X), "~v0"),
            (("neg", ("int", 5)), "-5"), (("add", X, Y), "(v0 + v12)"), (("sub", X, Y), "(v0 - v12)"),
            (("mul", X, Y), "(v0 * v12)"), (("and", X, Y), "(v0 & v12)"), (("or", X, Y), "(v0 | v12)"),
            (("xor", X, Y), "(v0 ^ v12)"), (("shl", X, Y), "(v0 << v12)"), (("shr", X, Y), "(v0 >> v12)"),
            (("less", X, Y), "(v0 < v12)"), (("equal", X, Y), "(v0 = v12)"),
            (("not", ("neg", ("load", ("add", ("int", 1), ("not", X))))), "~-[(1 + ~v0)]"),
        ):
            self.assertEqual(show_expression(e), text)
            self.assertEqual(read_function(f"{HEAD}return {text}"), (8, 0, ((0, (), ("return", e)),)))

    def test_items_and_ends(self):
        body = (("set", 12, X), ("write", ("neg", X)), ("store", ("load", X), Y))
        blocks = ((0, body, ("if", ("less", X, Y), 3, 4)), (3, (), ("go", 4)), (4, (), ("return", X)))
        text = (
            "width 16\nparams 6\nblock 0\n  v12 = v0\n  write -v0\n  [[v0]] = v12\n  if (v0 < v12) 3 4\n"
            "block 3\n  go 4\nblock 4\n  return v0\n"
        )
        self.assertEqual(show_function((16, 6, blocks)), text)
        self.assertEqual(read_function(text), (16, 6, blocks))


class Texts(unittest.TestCase):
    def wrong(self, text, line):
        with self.assertRaises(TextError) as caught:
            read_function(text)
        self.assertEqual(caught.exception.line, line, text)


class Read(Texts):
    def test_back(self):
        for function in (ADDER, COUNTDOWN):
            self.assertEqual(read_function(show_function(function)), function)

    def test_many_back(self):
        for seed in range(200):
            function = Dice(seed).function(5, 6)
            text = show_function(function)
            self.assertEqual(read_function(text), function)
            self.assertEqual(read_function(spread(text)), function)
            self.assertEqual(read_function(text[:-1]), function)

    def test_blanks_remarks_and_empty_lines(self):
        self.assertEqual(read_function(spread(TEXT)), COUNTDOWN)
        self.assertEqual(read_function("#\n\n   \n" + TEXT + "\n\n# the end"), COUNTDOWN)
        self.assertEqual(read_function(TEXT.replace("\n", "# x\n")), COUNTDOWN)

    def test_no_more_blanks_than_needed(self):
        text = "width 8\nparams 1\nblock 0\nv1=(v0<<2)\n[v1]=(1=~v0)\nif(v0<1)2 2\nblock 2\nreturn-[v1]"
        blocks = (
            (
                0,
                (
                    ("set", 1, ("shl", X, ("int", 2))),
                    ("store", ("var", 1), ("equal", ("int", 1), ("not", X))),
                ),
                ("if", ("less", X, ("int", 1)), 2, 2),
            ),
            (2, (), ("return", ("neg", ("load", ("var", 1))))),
        )
        self.assertEqual(read_function(text), (8, 1, blocks))

    def test_great_words_are_read(self):
        text = "width 999999\nparams 88\nblock 5000\n  v777 = 999999\n  go 123456\nblock 5000\n  return 256\n"
        function = (999999, 88, ((5000, (("set", 777, ("int", 999999)),), ("go", 123456)), (5000, (), ("return",
            ("int", 256)))))
        self.assertEqual(read_function(text), function)
        self.assertEqual(show_function(function), text)
        self.assertEqual(function_faults(read_function(f"{HEAD}return 256")), [(0, "end")])

    def test_more_blocks_and_items_than_a_function_has(self):
        text = "width 8\nparams 0\n" + "block 3\nwrite 1\nreturn 1\n" * 50
        self.assertEqual(len(read_function(text)[2]), 50)
        text = HEAD + "write 1\n" * 70 + "return 1"
        self.assertEqual(len(read_function(text)[2][0][1]), 70)

    def test_depth(self):
        for tag in ("not", "neg", "load"):
            deep, deeper = nest(tag, X, 20), nest(tag, X, 21)
            for row in ("write {}", "v3 = {}", "[{}] = 1", "[1] = {}"):
                text = f"{HEAD}{row.format(show_expression(deep))}\nreturn 0"
                self.assertEqual(show_function(read_function(text)).count(show_expression(deep)), 1)
                self.wrong(f"{HEAD}{row.format(show_expression(deeper))}\nreturn 0", 4)
            for row in ("return {}", "if {} 0 0"):
                self.assertEqual(read_function(HEAD + row.format(show_expression(deep)))[2][0][2][1], deep)
                self.wrong(HEAD + row.format(show_expression(deeper)), 4)
        left = right = X
        for _ in range(19):
            left, right = ("add", left, Y), ("add", Y, right)
        for e in (left, right):
            self.assertEqual(read_function(f"{HEAD}return {show_expression(e)}")[2][0][2][1], e)
            self.wrong(f"{HEAD}return ({show_expression(e)} + 1)", 4)
            self.wrong(f"{HEAD}return (1 + {show_expression(e)})", 4)

    def test_very_deep(self):
        for sign in "([~-":
            self.wrong(f"{HEAD}return {sign * 100000}v0", 4)


class Wrong(Texts):
    def test_error(self):
        with self.assertRaises(TilesError):
            read_function("")
        with self.assertRaises(ValueError):
            read_function("width")

    def test_header(self):
        for line in (
            "width", "width 08", "width -8", "width 8 8", "width v8", "width eight", "Width 8", "width8", "params 8",
            "block 0", "8", "width 1234567", "width 00", "width, 8", "width\t8", "widthe 8", "wid th 8", "width 8\r",
            "x", "return 0", "width (8)", "width 8;", "width \u0663", "width \u00b2",
        ):
            self.wrong(f"{line}\nparams 0\nblock 0\nreturn 0\n", 1)
        for line in ("params", "params 01", "params -1", "params v0", "block 0", "width 8", "params 0 0", "params0"):
            self.wrong(f"width 8\n{line}\nblock 0\nreturn 0\n", 2)
        for line in ("block", "block 00", "block v0", "block 0 1", "return 0", "params 0", "block0", "block -1",
            "v0 = 1"):
            self.wrong(f"width 8\nparams 0\n{line}\nreturn 0\n", 3)

    def test_items(self):
        for line in (
            "write", "write 1 2", "write 01", "write 1234567", "writ 1", "write1", "WRITE 1", "write V0", "write v",
            "write v01", "write v1234567", "write x1", "write vv1", "write (1 + 2", "write 1 + 2", "write (1 + 2))",
            "write (1 2)", "write (1 + )", "write ( + 1)", "write ()", "write []", "write [1", "write 1]", "write ~",
            "write -", "write (1 < < 2)", "write (1 > 2)", "write (1 > > 2)", "write (1 <<< 2)", "write (1 == 2)",
            "write (1 / 2)", "write (1 + 2 + 3)", "write (1)", "write v 1", "write 1 v", "write $a", "write reg",
            "write 1\t", "v1 == 2", "v1 = ", "v1 = = 2", "v1 2", "v1", "v = 1", "v01 = 1", "1 = 2", "x = 1",
            "v1 = 1 2",
            "v1234567 = 1", "[1] 2", "[1] =", "[] = 1", "[1 = 2", "1] = 2", "[1] = 2 3", "(1 + 2) = 3", "~1 = 2",
            "= 1", "[1] [2]", "block 1", "width 8", "params 0", "5", "?", "\u00e9", "write 1 ; write 2", "write, 1",
        ):
            self.wrong(f"{HEAD}write 0\n{line}\nreturn 0\n", 5)

    def test_ends(self):
        for line in (
            "go", "go v1", "go 1 2", "go -1", "go 01", "go1", "if", "if 1", "if 1 2", "if 1 2 3 4", "if 1 v2 3",
            "if 1 2 v3", "if v0 -1 2", "if 1, 2, 3", "return", "return 1 2", "return1", "return (1 + 2", "stop",
            "if (1 < 2) 02 3", "go 1234567", "none",
        ):
            self.wrong(f"{HEAD}{line}\nblock 1\nreturn 0\n", 4)

    def test_behind_an_end(self):
        for line in ("write 1", "go 1", "return 0", "v1 = 2", "params 0", "width 8", "[1] = 2", "if 1 2 3", "x"):
            self.wrong(f"{HEAD}return 0\n{line}\n", 5)
            self.wrong(f"{HEAD}return 0\n\n# x\n{line}\nblock 1\nreturn 0", 7)

    def test_first_wrong_line(self):
        self.wrong("# x\n\nwidth 8\nparams\nblock\n", 4)
        self.wrong(f"{HEAD}return 0\nblock 1\nblock 2\n", 6)
        self.wrong(f"{HEAD}write ?\nwrite ?\n", 4)
        self.wrong(f"{HEAD}write ?", 4)

    def test_digits(self):
        self.assertEqual(read_function(f"{HEAD}return 999999")[2][0][2], ("return", ("int", 999999)))
        self.assertEqual(read_function(f"{HEAD}return v999999")[2][0][2], ("return", ("var", 999999)))
        self.assertEqual(read_function(f"{HEAD}return 0")[2][0][2], ("return", ("int", 0)))
        for word in ("1000000", "0999999", "000000", "00", "v1000000", "v00", "v007", "1e5", "12a"):
            self.wrong(f"{HEAD}return {word}", 4)

    def test_too_early(self):
        lines = TEXT.split("\n")[:-1]
        # The block 9 ends with the last line; 4, 6 and 11 are the lines of the other ends.
        for many in range(len(lines)):
            text = "\n".join(lines[:many])
            if many in (4, 6, 11):
                self.assertEqual(show_function(read_function(text)), text + "\n")
                self.assertEqual(show_function(read_function(text + "\n")), text + "\n")
                continue
            self.wrong(text, many + 1)
            if many > 0:
                self.wrong(text + "\n", many + 1)
                self.wrong(text + "\n\n", many + 2)
                self.wrong(text + "\n# x", many + 2)
                self.wrong(text + "\n# x\n", many + 2)

    def test_no_lines(self):
        self.wrong("", 1)
        self.wrong("\n", 2)
        self.wrong("   ", 2)
        self.wrong("# x", 2)
        self.wrong("\n\n\n", 4)
        self.wrong("\n\n\n ", 5)


if __name__ == "__main__":
    unittest.main()
