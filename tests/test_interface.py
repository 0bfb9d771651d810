"""[0.2], [0.3] and the introduction of "The interface"."""

import importlib
import inspect
import sys
import unittest

from leasttiles.functions import function_faults, live_in, uses
from leasttiles.run import run, trace
from samples import Dice, nest, wrap

INTERFACE = {
    "words": {"top": "(w)", "compute": "(op, w, x, y)"},
    "errors": {
        "TilesError": None, "TextError": "(line)", "Uncovered": "(path)", "NoRegisters": "(label)",
        "AssemblyError": "(at)", "PackError": "(at)",
    },
    "functions": {
        "function_faults": "(value)", "successors": "(block)", "uses": "(e)", "live_in": "(function)",
    },
    "run": {"run": "(function, inputs, *, fuel)", "trace": "(function, inputs, *, fuel)"},
}


def deepest(call):
    """How deep the function of the package that nests deepest nests its own calls."""
    active, most = {}, [0]

    def watch(frame, event, _):
        code = frame.f_code
        if "leasttiles" not in code.co_filename:
            return
        if event == "call":
            active[code] = active.get(code, 0) + 1
            most[0] = max(most[0], active[code])
        elif event == "return":
            active[code] -= 1

    sys.setprofile(watch)
    try:
        call()
    finally:
        sys.setprofile(None)
    return most[0]


class Interface(unittest.TestCase):
    def test_names_and_arguments(self):
        for module_name, names in INTERFACE.items():
            module = importlib.import_module(f"leasttiles.{module_name}")
            for name, arguments in names.items():
                found = getattr(module, name)
                self.assertEqual(found.__module__, f"leasttiles.{module_name}", name)
                if arguments is not None:
                    self.assertEqual(str(inspect.signature(found)), arguments, name)

    def test_trace_is_a_generator_function(self):
        self.assertTrue(inspect.isgeneratorfunction(trace))
        self.assertFalse(inspect.isgeneratorfunction(run))


class Depth(unittest.TestCase):
    def test_functions(self):
        e = nest("not", ("var", 3), 20)
        item = ("store", e, e)
        function = (16, 0, ((0, (item,) * 60, ("if", e, 1, 1)), (1, (), ("return", e))))
        self.assertEqual(function_faults(function), [])
        for call in (
            lambda: function_faults(function),
            lambda: function_faults(wrap(1, 50000)),
            lambda: function_faults((8, 0, ((0, (("write", nest("not", 1, 50000)),), ("return", 1)),))),
            lambda: live_in(function),
            lambda: uses(e),
            lambda: run(function, (), fuel=5),
            lambda: list(trace(function, (), fuel=5)),
        ):
            self.assertLessEqual(deepest(call), 100)


class Bounds(unittest.TestCase):
    def test_the_largest_function(self):
        dice = Dice(1)
        rows = []
        for label in range(40):
            body = tuple(dice.statement(16, 6) for _ in range(60))
            rows.append((label, body, ("if", ("var", 0), min(label + 1, 39), max(label, 1))))
        function = (16, 6, tuple(rows))
        self.assertEqual(function_faults(function), [])
        self.assertEqual(len(live_in(function)), 40)
        self.assertEqual(run(function, (1, 2, 3, 4, 5, 6), fuel=300)[2], 300)

    def test_somewhat_beyond(self):
        e = nest("neg", ("var", 120), 30)
        rows = tuple((label, (("write", e),) * 70, ("go", label + 1)) for label in range(1000, 1050))
        function = (20, 8, (*rows, (1050, (), ("return", e))))
        self.assertEqual(run(function, (1,) * 8, fuel=100)[2], 51)
        self.assertEqual(live_in(function)[0], (1000, (120,)))
        self.assertEqual(uses(e), (120,))


if __name__ == "__main__":
    unittest.main()
