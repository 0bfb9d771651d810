"""[2.3] runs."""

import copy
import itertools
import unittest

from leasttiles.run import run, trace
from samples import ADDER, COUNTDOWN, Dice, nest

X, Y = ("var", 0), ("var", 1)


def one(body, end, width=8, params=0):
    return (width, params, ((0, body, end),))


def word(e, inputs=(), width=8):
    """The word of an expression over inputs."""
    return run(one((), ("return", e), width, len(inputs)), inputs, fuel=1)[1][1]


class Items(unittest.TestCase):
    def test_return(self):
        self.assertEqual(run(ADDER, (200, 100), fuel=1), ([], ("return", 44), 1))

    def test_what_is_returned(self):
        found = run(COUNTDOWN, (3,), fuel=100)
        self.assertIs(type(found), tuple)
        self.assertIs(type(found[0]), list)
        self.assertEqual(found, ([3, 5, 6], ("return", 6), 9))

    def test_set_and_write_in_order(self):
        body = (("set", 1, X), ("write", Y), ("set", 1, ("add", Y, Y)), ("write", Y), ("set", 0, ("int", 9)))
        self.assertEqual(run(one(body, ("return", X), params=1), (7,), fuel=5), ([7, 14], ("return", 9), 1))

    def test_variables_begin_with_0(self):
        body = tuple(("write", ("var", v)) for v in (0, 1, 2, 99))
        self.assertEqual(run(one(body, ("return", ("var", 50)), params=2), (8, 9), fuel=1)[:2],
                         ([8, 9, 0, 0], ("return", 0)))

    def test_six_inputs(self):
        body = tuple(("write", ("var", v)) for v in range(6))
        inputs = (1, 2, 3, 4, 5, 255)
        self.assertEqual(run(one(body, ("return", X), params=6), inputs, fuel=1)[0], list(inputs))

    def test_memory(self):
        body = (
            ("write", ("load", ("int", 3))),
            ("store", ("int", 3), ("int", 77)),
            ("write", ("load", ("int", 3))),
            ("write", ("load", ("int", 19))),
            ("write", ("load", ("int", 4))),
            ("store", ("int", 255), ("int", 5)),
            ("write", ("load", ("int", 15))),
            ("store", ("int", 16), ("load", ("int", 15))),
            ("write", ("load", ("int", 0))),
            ("store", ("load", ("int", 0)), ("load", ("int", 3))),
            ("write", ("load", ("int", 5))),
        )
        self.assertEqual(run(one(body, ("return", X)), (), fuel=1)[0], [0, 77, 77, 0, 5, 5, 77])

    def test_memory_is_new_in_each_run(self):
        function = one((("write", ("load", ("int", 1))), ("store", ("int", 1), ("int", 8))), ("return", X))
        for _ in range(2):
            self.assertEqual(run(function, (), fuel=1)[0], [0])

    def test_ops(self):
        for op, x, y, expected in (
            ("add", 253, 7, 4), ("sub", 253, 7, 246), ("sub", 7, 253, 10), ("mul", 253, 7, 235),
            ("and", 253, 3, 1), ("or", 252, 7, 255), ("xor", 253, 3, 254), ("shl", 253, 7, 128),
            ("shl", 253, 8, 0), ("shr", 253, 7, 1), ("shr", 253, 8, 0), ("less", 253, 7, 0),
            ("less", 7, 253, 1), ("less", 7, 7, 0), ("equal", 253, 7, 0), ("equal", 7, 7, 1),
        ):
            self.assertEqual(word((op, ("int", x), ("int", y))), expected, op)
            self.assertEqual(word((op, X, Y), (x, y)), expected, op)
        self.assertEqual(word(("not", ("int", 1))), 254)
        self.assertEqual(word(("neg", ("int", 1))), 255)
        self.assertEqual(word(("sub", X, Y), (3, 5)), 254)
        self.assertEqual(word(("less", X, Y), (3, 5)), 1)
        self.assertEqual(word(("shl", X, Y), (3, 5)), 96)

    def test_deep_expressions(self):
        self.assertEqual(word(nest("not", ("int", 1), 20)), 254)
        self.assertEqual(word(nest("neg", ("int", 1), 25)), 1)


class Ways(unittest.TestCase):
    def test_if(self):
        blocks = (
            (0, (), ("if", X, 1, 2)),
            (1, (), ("return", ("int", 11))),
            (2, (), ("return", ("int", 22))),
        )
        for inputs, expected in (((0,), 22), ((1,), 11), ((255,), 11)):
            self.assertEqual(run((8, 1, blocks), inputs, fuel=9), ([], ("return", expected), 2))

    def test_fuel(self):
        for fuel in range(9):
            writes = [3, 5, 6][:len([steps for steps in (3, 5, 7) if steps <= fuel])]
            self.assertEqual(run(COUNTDOWN, (3,), fuel=fuel), (writes, ("none",), fuel))
        for fuel in (9, 10, 1000):
            self.assertEqual(run(COUNTDOWN, (3,), fuel=fuel), ([3, 5, 6], ("return", 6), 9))

    def test_loop_without_end(self):
        function = (8, 0, ((0, (), ("go", 1)), (1, (("write", ("int", 1)),), ("go", 1))))
        self.assertEqual(run(function, (), fuel=0), ([], ("none",), 0))
        self.assertEqual(run(function, (), fuel=1), ([], ("none",), 1))
        self.assertEqual(run(function, (), fuel=50), ([1] * 49, ("none",), 50))

    def test_long_runs(self):
        function = (16, 0, ((0, (("set", 0, ("int", 20000)),), ("go", 1)),
                            (1, (("set", 0, ("sub", X, ("int", 1))),), ("if", X, 1, 2)),
                            (2, (), ("return", X))))
        self.assertEqual(run(function, (), fuel=30000), ([], ("return", 0), 20002))


class Trace(unittest.TestCase):
    def test_labels(self):
        self.assertEqual(list(trace(COUNTDOWN, (3,), fuel=100)), [5, 7, 1, 7, 1, 7, 1, 7, 9])
        self.assertEqual(list(trace(COUNTDOWN, (3,), fuel=4)), [5, 7, 1, 7])
        self.assertEqual(list(trace(COUNTDOWN, (3,), fuel=0)), [])
        self.assertEqual(list(trace(ADDER, (1, 2), fuel=1)), [0])

    def test_it_is_a_generator(self):
        function = (8, 0, ((0, (), ("go", 1)), (1, (), ("go", 1))))
        labels = trace(function, (), fuel=10 ** 12)
        self.assertTrue(hasattr(labels, "send"))
        self.assertEqual(list(itertools.islice(labels, 5)), [0, 1, 1, 1, 1])

    def test_as_many_as_steps(self):
        for seed in range(200):
            dice = Dice(seed)
            function = dice.function(3, 6)
            inputs = tuple(dice.number(0, 2 ** function[0] - 1) for _ in range(function[1]))
            fuel = dice.number(0, 30)
            labels = list(trace(function, inputs, fuel=fuel))
            self.assertEqual(len(labels), run(function, inputs, fuel=fuel)[2])
            self.assertEqual(labels, list(trace(function, inputs, fuel=1000))[:fuel])


class Arguments(unittest.TestCase):
    def test_fuel_by_keyword_only(self):
        with self.assertRaises(TypeError):
            run(ADDER, (1, 2), 5)
        with self.assertRaises(TypeError):
            trace(ADDER, (1, 2), 5)

    def test_nothing_is_changed(self):
        function, inputs = copy.deepcopy(COUNTDOWN), (3,)
        run(function, inputs, fuel=100)
        list(trace(function, inputs, fuel=100))
        self.assertEqual((function, inputs), (COUNTDOWN, (3,)))


if __name__ == "__main__":
    unittest.main()
