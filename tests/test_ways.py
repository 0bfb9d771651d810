"""[2.5] ways."""

import unittest

from leasttiles.functions import live_in, successors, uses
from samples import COUNTDOWN, Dice

X, Y, Z = ("var", 0), ("var", 1), ("var", 2)
RETURN = ("return", ("int", 0))


def variables(e):
    """The variables of an expression, found in its text."""
    if isinstance(e, tuple):
        if e[0] == "var":
            return {e[1]}
        return set().union(*[variables(part) for part in e[1:]])
    return set()


def steps_of(block):
    """The pairs of variables read and variable set (or None), one for each item and the end."""
    rows = []
    for item in block[1]:
        read = set().union(*[variables(part) for part in item[1:]])
        rows.append((read, item[1] if item[0] == "set" else None))
    rows.append((set().union(set(), *[variables(part) for part in block[2][1:]]), None))
    return rows


def is_live(function, label, v):
    """Whether some way from a block's beginning reads v before it sets it, by search."""
    blocks = {block[0]: block for block in function[2]}
    seen, waiting = set(), [label]
    while waiting:
        here = waiting.pop()
        if here in seen:
            continue
        seen.add(here)
        for read, placed in steps_of(blocks[here]):
            if v in read:
                return True
            if v == placed:
                break
        else:
            end = blocks[here][2]
            waiting.extend({"go": end[1:], "if": end[2:], "return": ()}[end[0]])
    return False


class Successors(unittest.TestCase):
    def test_each_end(self):
        self.assertEqual(successors((0, (), ("go", 7))), (7,))
        self.assertEqual(successors((0, (), ("if", X, 3, 2))), (3, 2))
        self.assertEqual(successors((0, (), ("if", X, 2, 3))), (2, 3))
        self.assertEqual(successors((0, (), ("if", X, 5, 5))), (5,))
        self.assertEqual(successors((0, (), RETURN)), ())


class Uses(unittest.TestCase):
    def test_uses(self):
        self.assertEqual(uses(("int", 7)), ())
        self.assertEqual(uses(("var", 7)), (7,))
        self.assertEqual(uses(("load", ("neg", ("var", 7)))), (7,))
        e = ("add", ("var", 30), ("sub", ("var", 4), ("load", ("add", ("var", 30), ("int", 2)))))
        self.assertEqual(uses(e), (4, 30))

    def test_numbers_are_no_variables(self):
        self.assertEqual(uses(("add", ("int", 3), ("var", 9))), (9,))


class LiveIn(unittest.TestCase):
    def test_one_block(self):
        self.assertEqual(live_in((8, 0, ((4, (), RETURN),))), [(4, ())])
        self.assertEqual(live_in((8, 0, ((4, (), ("return", Y)),))), [(4, (1,))])

    def test_used_and_set_in_one_block(self):
        body = (("set", 0, ("add", X, Y)), ("set", 2, X), ("write", Z))
        self.assertEqual(live_in((8, 2, ((0, body, ("return", Z)),))), [(0, (0, 1))])
        self.assertEqual(live_in((8, 1, ((0, (("set", 0, X),), RETURN),))), [(0, (0,))])
        body = (("set", 0, ("int", 1)), ("write", X))
        self.assertEqual(live_in((8, 1, ((0, body, ("return", X)),))), [(0, ())])

    def test_each_item(self):
        for item in (("write", X), ("store", X, ("int", 0)), ("store", ("int", 0), X), ("set", 5, X)):
            self.assertEqual(live_in((8, 1, ((0, (item,), RETURN),))), [(0, (0,))])

    def test_loop(self):
        self.assertEqual(live_in(COUNTDOWN), [(5, (0, 1)), (7, (0, 1)), (1, (0, 1)), (9, (1,))])

    def test_same_label_twice(self):
        function = (8, 0, ((0, (), ("if", X, 1, 1)), (1, (), ("return", Y))))
        self.assertEqual(live_in(function), [(0, (0, 1)), (1, (1,))])

    def test_only_by_a_way_round_a_loop(self):
        # 2 is read at the loop's head and set behind it, so it is live in 3 only by way of 1.
        function = (
            8,
            0,
            (
                (0, (("set", 2, ("int", 1)),), ("go", 1)),
                (1, (("write", Z),), ("go", 2)),
                (2, (), ("if", X, 3, 4)),
                (3, (), ("go", 1)),
                (4, (("set", 2, ("int", 0)),), ("return", Z)),
            ),
        )
        self.assertEqual(live_in(function), [(0, (0,)), (1, (0, 2)), (2, (0, 2)), (3, (0, 2)), (4, ())])

    def test_inputs_live_at_the_entry(self):
        function = (8, 2, ((6, (), ("go", 3)), (3, (("write", Y),), ("return", X))))
        self.assertEqual(live_in(function), [(6, (0, 1)), (3, (0, 1))])

    def test_blocks_that_no_way_reaches(self):
        function = (8, 0, ((0, (), RETURN), (5, (), ("return", Z)), (4, (), ("go", 5))))
        self.assertEqual(live_in(function), [(0, ()), (5, (2,)), (4, (2,))])

    def test_by_search(self):
        for seed in range(400):
            function = Dice(seed).function(3, 8)
            expected = [
                (block[0], tuple(v for v in range(6) if is_live(function, block[0], v)))
                for block in function[2]
            ]
            self.assertEqual(live_in(function), expected, seed)


if __name__ == "__main__":
    unittest.main()
