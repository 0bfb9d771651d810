"""[2.1] and [2.2]: the form of functions and their faults."""

import unittest

from leasttiles.functions import function_faults
from samples import ADDER, COUNTDOWN, Dice, nest, wrap

RETURN = ("return", ("int", 0))
FORM = [(-1, "form")]


def one(body=(), end=RETURN, width=8, params=0, label=0):
    """A function of one block."""
    return (width, params, ((label, body, end),))


def two(end, body=()):
    """A function of the blocks 0, with this end, and 1."""
    return (8, 0, ((0, body, end), (1, (), RETURN)))


class Without(unittest.TestCase):
    def test_samples(self):
        self.assertEqual(function_faults(ADDER), [])
        self.assertEqual(function_faults(COUNTDOWN), [])
        self.assertEqual(function_faults(one()), [])

    def test_many(self):
        for seed in range(300):
            self.assertEqual(function_faults(Dice(seed).function()), [], seed)

    def test_each_item_and_end(self):
        e = ("var", 99)
        for item in (("set", 0, e), ("set", 99, e), ("write", e), ("store", e, ("int", 255))):
            self.assertEqual(function_faults(one((item,))), [])
        for end in (("go", 1), ("if", e, 1, 1), RETURN, ("return", e)):
            self.assertEqual(function_faults(two(end)), [])

    def test_each_expression(self):
        e = ("var", 3)
        for op in ("add", "sub", "mul", "and", "or", "xor", "shl", "shr", "less", "equal"):
            self.assertEqual(function_faults(one((("write", (op, e, e)),))), [])
        for op in ("not", "neg", "load"):
            self.assertEqual(function_faults(one((("write", (op, e)),))), [])

    def test_answer_is_a_new_list(self):
        first = function_faults(None)
        first.append("x")
        self.assertEqual(function_faults(None), FORM)


class Form(unittest.TestCase):
    def test_no_functions_at_all(self):
        block = (0, (), RETURN)
        for value in (
            None, True, False, 0, -1, 10 ** 40, "", "function", (), [], (8,), (8, 0), (8, 0, ()),
            (8, 0, (block,), 0), [8, 0, (block,)], (8, 0, [block]), (8, 0, block), (8, 0, ((),)),
            (8, 0, (block[:2],)), (8, 0, ((*block, 0),)), (8, 0, (list(block),)), (8, 0, (None,)),
            (8, 0, (block, 5)), ("8", 0, (block,)), (None, 0, (block,)), (8, "0", (block,)),
            (8, None, (block,)), (8, 0, "block"), (8, 0, None), "abc", ("a", "b", "c"),
        ):
            self.assertEqual(function_faults(value), FORM, value)

    def test_width_and_params(self):
        for width in (1, 2, 16):
            self.assertEqual(function_faults(one(width=width)), [])
        for width in (0, 17, -1, True, False, None, "8", (8,)):
            self.assertEqual(function_faults(one(width=width)), FORM)
        for params in (0, 1, 6):
            self.assertEqual(function_faults(one(params=params)), [])
        for params in (-1, 7, True, False, None, "0"):
            self.assertEqual(function_faults(one(params=params)), FORM)

    def test_labels_bodies_ends(self):
        for label in (0, 1, 999):
            self.assertEqual(function_faults(one(label=label)), [])
        for label in (-1, 1000, True, False, None, "0", (0,)):
            self.assertEqual(function_faults(one(label=label)), FORM)
        for body in ([], None, 0, "", "write"):
            self.assertEqual(function_faults(one(body)), FORM)
        for end in (list(RETURN), None, "return", 0):
            self.assertEqual(function_faults(one(end=end)), FORM)

    def test_nothing_else_is_told(self):
        self.assertEqual(function_faults((8, 0, ((0, (5,), ("go", 0)), (0, [], RETURN)))), FORM)

    def test_numbers_of_blocks_and_items(self):
        rows = tuple((label, (), RETURN) for label in range(41))
        self.assertEqual(function_faults((8, 0, rows[:40])), [])
        self.assertEqual(function_faults((8, 0, rows)), FORM)
        item = ("write", ("int", 1))
        self.assertEqual(function_faults(one((item,) * 60)), [])
        self.assertEqual(function_faults(one((item,) * 61)), FORM)


class Statements(unittest.TestCase):
    def check(self, item, expected):
        self.assertEqual(function_faults(one((item,))), expected, item)

    def test_none(self):
        e = ("int", 1)
        for item in (
            None, True, 5, "write", (), [], ("write",), ("write", e, e), ["write", e], ("write", list(e)),
            ("set", 0), ("set", e, 0), ("set", 0, e, e), ("set", -1, e), ("set", 100, e), ("set", True, e),
            ("set", False, e), ("set", "0", e), ("set", None, e), ("set", 0, 1), ("store", e), ("store", 0, e),
            ("store", e, 0), ("store", e, e, e), ("go", 0), ("return", e), ("if", e, 1, 1), ("load", e), e,
            (None, e), (5, e), ((), e), (("write",), e), ("write", None),
        ):
            self.check(item, [(0, "statement")])

    def test_expressions(self):
        x = ("var", 0)
        for e in (
            ("int", 0), ("int", 255), ("var", 0), ("var", 99), ("load", x), ("not", x), ("shr", x, x),
        ):
            self.check(("write", e), [])
            self.check(("set", 0, e), [])
            self.check(("store", e, x), [])
            self.check(("store", x, e), [])
        for e in (
            ("int", -1), ("int", 256), ("int", True), ("int", False), ("int", None), ("int", "1"), ("int",),
            ("int", 1, 1), ["int", 1], ("var", -1), ("var", 100), ("var", True), ("var",), ("var", 1, 1),
            ("load",), ("load", x, x), ("load", 0), ("not", x, x), ("not",), ("add", x), ("add", x, x, x),
            ("add", x, None), ("add", None, x), ("add", x, ["var", 0]), ("ADD", x, x), ("plus", x, x), (), None,
            7, "v0", (7, x), (("int", 1), ("int", 1)), ("reg",), ("imm", 0, 1), ("nt", "a"), ("write", x),
            ("set", 0, x), ("neg", ("neg", ("int", 256))), ("", x), (["add"], x, x),
        ):
            self.check(("write", e), [(0, "statement")])
            self.check(("set", 0, e), [(0, "statement")])
            self.check(("store", e, x), [(0, "statement")])
            self.check(("store", x, e), [(0, "statement")])
            self.assertEqual(function_faults(two(("if", e, 1, 1))), [(0, "end")])
            self.assertEqual(function_faults(one(end=("return", e))), [(0, "end")])

    def test_words_at_each_width(self):
        for w in range(1, 17):
            body = (("write", ("int", 2 ** w - 1)),)
            self.assertEqual(function_faults(one(body, width=w)), [])
            body = (("write", ("int", 2 ** w)),)
            self.assertEqual(function_faults(one(body, width=w)), [(0, "statement")])

    def test_depth(self):
        for leaf in (("int", 1), ("var", 1)):
            for tag in ("not", "load"):
                deep, deeper = nest(tag, leaf, 20), nest(tag, leaf, 21)
                for item in (("write", deep), ("set", 0, deep), ("store", deep, deep)):
                    self.check(item, [])
                for item in (("write", deeper), ("set", 0, deeper), ("store", deep, deeper), ("store", deeper, deep)):
                    self.check(item, [(0, "statement")])
                self.assertEqual(function_faults(one(end=("return", deep))), [])
                self.assertEqual(function_faults(one(end=("return", deeper))), [(0, "end")])
                self.assertEqual(function_faults(two(("if", deep, 1, 1))), [])
                self.assertEqual(function_faults(two(("if", deeper, 1, 1))), [(0, "end")])

    def test_depth_on_either_side(self):
        x = ("var", 0)
        left = right = x
        for _ in range(19):
            left, right = ("add", left, x), ("add", x, right)
        for e in (left, right):
            self.check(("write", e), [])
            self.check(("write", ("add", e, x)), [(0, "statement")])
            self.check(("write", ("add", x, e)), [(0, "statement")])

    def test_very_deep_values(self):
        very = nest("not", ("int", 1), 200000)
        self.check(("write", very), [(0, "statement")])
        self.check(wrap(1, 200000), [(0, "statement")])
        self.check((wrap(1, 200000), ("int", 1)), [(0, "statement")])
        self.check(("write", ("int", wrap(1, 200000))), [(0, "statement")])
        self.check(("write", (wrap(1, 200000), ("int", 1))), [(0, "statement")])
        self.assertEqual(function_faults(one(end=("return", very))), [(0, "end")])
        self.assertEqual(function_faults(one(end=wrap(1, 200000))), [(0, "end")])
        self.assertEqual(function_faults(wrap(1, 200000)), FORM)
        self.assertEqual(function_faults(one(label=wrap(1, 200000))), FORM)
        listed = 1
        for _ in range(100000):
            listed = [listed]
        self.assertEqual(function_faults(listed), FORM)
        self.check(listed, [(0, "statement")])

    def test_wide_and_deep_at_once(self):
        e = ("int", 1)
        for _ in range(200):
            e = ("add", e, e)
        self.check(("write", e), [(0, "statement")])


class Ends(unittest.TestCase):
    def test_none(self):
        e = ("int", 1)
        for end in (
            (), ("go",), ("go", 1, 1), ("go", True), ("go", None), ("go", -1), ("go", 1000), ("go", "1"),
            ("if", e, 1), ("if", 1, 1, 1), ("if", e, 1, 1, 1), ("if", e, True, 1), ("if", e, 1, False),
            ("if", e, 1000, 1), ("if", e, 1, -1), ("return",), ("return", 1), ("return", e, e), ("none",),
            ("branch", e, 1, 1), ("write", e), (None,), (5, 1), ("",), (("go", 1),),
        ):
            self.assertEqual(function_faults(two(end)), [(0, "end")], end)

    def test_target(self):
        e = ("int", 1)
        for end in (("go", 2), ("go", 999), ("if", e, 1, 2), ("if", e, 2, 1), ("if", e, 2, 2), ("if", e, 2, 3)):
            self.assertEqual(function_faults(two(end)), [(0, "target")], end)

    def test_entry(self):
        e = ("int", 1)
        for end in (("go", 0), ("if", e, 1, 0), ("if", e, 0, 1), ("if", e, 0, 0)):
            self.assertEqual(function_faults(two(end)), [(0, "entry")], end)
            function = (8, 0, ((0, (), ("go", 1)), (1, (), end)))
            self.assertEqual(function_faults(function), [(1, "entry")])

    def test_entry_is_the_first_block(self):
        function = (8, 0, ((5, (), ("go", 0)), (0, (), ("go", 0))))
        self.assertEqual(function_faults(function), [])
        function = (8, 0, ((5, (), ("go", 0)), (0, (), ("go", 5))))
        self.assertEqual(function_faults(function), [(0, "entry")])

    def test_target_and_entry(self):
        self.assertEqual(function_faults(two(("if", ("int", 1), 0, 7))), [(0, "entry"), (0, "target")])


class Several(unittest.TestCase):
    def test_twice(self):
        block = (3, (), RETURN)
        self.assertEqual(function_faults((8, 0, (block, block))), [(3, "twice")])
        self.assertEqual(function_faults((8, 0, (block, block, block))), [(3, "twice")])
        other = (2, (), ("go", 3))
        self.assertEqual(function_faults((8, 0, (other, block, block))), [(3, "twice")])

    def test_order_and_no_duplicates(self):
        wrong = ("write",)
        function = (
            8,
            0,
            (
                (9, (wrong, wrong), ("if", ("int", 1), 9, 800)),
                (4, (wrong,), ("stop",)),
                (9, (wrong,), ("go", 9)),
                (4, (), ("go", 10)),
            ),
        )
        self.assertEqual(
            function_faults(function),
            [
                (4, "end"), (4, "statement"), (4, "target"), (4, "twice"),
                (9, "entry"), (9, "statement"), (9, "target"), (9, "twice"),
            ],
        )

    def test_labels_ascend_as_numbers(self):
        blocks = [(label, (), ("stop",)) for label in (100, 20, 3)]
        self.assertEqual(function_faults((8, 0, tuple(blocks))), [(3, "end"), (20, "end"), (100, "end")])


if __name__ == "__main__":
    unittest.main()
