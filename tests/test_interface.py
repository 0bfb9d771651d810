"""[0.2], [0.3] and the introduction of "The interface"."""

import importlib
import inspect
import sys
import unittest

from build_samples import built
from code_samples import full_machine, tile_of_name, untied, with_rules
from form_samples import any_table
from leasttiles.assemble import assemble, disassemble
from leasttiles.backend import build
from leasttiles.checker import check, refusal
from leasttiles.codes import code_faults, cost_of, reads
from leasttiles.colour import assign
from leasttiles.coderun import run_code
from leasttiles.costs import check_costs, cost_table, parts
from leasttiles.covers import cover_cost, holes, least_cover, uncovered
from leasttiles.depend import depends
from leasttiles.emit import emit, tied
from leasttiles.errors import PackError, TextError
from leasttiles.forms import decode, encode, overlaps, table_faults
from leasttiles.functions import function_faults, live_in, uses
from leasttiles.house import House
from leasttiles.judge import judge, judge_sequence
from leasttiles.listing import read_code, show_code
from leasttiles.live import live_at, meetings
from leasttiles.machines import (
    are_operands, is_tile, leaves, machine_faults, ties_kept, tile_cost, tile_value, whole_pattern,
)
from leasttiles.machtext import read_machine, show_machine
from leasttiles.moves import sequence
from leasttiles.packing import pack, unpack
from leasttiles.run import run, trace
from leasttiles.schedule import in_order, is_schedule, least_schedule, list_schedule
from leasttiles.sequences import least_sequence, sequence_cost, sequence_value
from leasttiles.terms import Terms
from leasttiles.text import read_function, show_expression, show_function
from samples import REG, Dice, nest, wrap

INTERFACE = {
    "words": {"top": "(w)", "compute": "(op, w, x, y)"},
    "errors": {
        "TilesError": None, "TextError": "(line)", "Uncovered": "(path)", "NoRegisters": "(label)",
        "AssemblyError": "(at)", "PackError": "(at)",
    },
    "functions": {
        "function_faults": "(value)", "successors": "(block)", "uses": "(e)", "live_in": "(function)",
    },
    "run": {"run": "(function, inputs, *, fuel)", "trace": "(function, inputs, *, fuel)"},
    "text": {"show_function": "(function)", "show_expression": "(e)", "read_function": "(text)"},
    "machines": {
        "machine_faults": "(value)", "is_tile": "(machine, result, value)", "leaves": "(machine, tile)",
        "whole_pattern": "(machine, tile)", "fits_imm": "(w, word, least, most)", "tile_cost": "(machine, tile)",
        "are_operands": "(machine, tile, value)", "ties_kept": "(machine, tile, result, operands)",
        "tile_value": "(machine, tile, operands, registers, memory)",
    },
    "machtext": {"show_machine": "(machine)", "read_machine": "(text)"},
    "covers": {
        "holes": "(machine, k, tree)", "cover_cost": "(machine, tree, result, value)",
        "least_cover": "(machine, tree, result)", "uncovered": "(machine, function)",
    },
    "costs": {"parts": "(tree)", "check_costs": "(machine, tree, value)", "cost_table": "(machine, tree)"},
    "codes": {
        "code_faults": "(machine, value)", "cost_of": "(machine, code)", "reads": "(machine, instruction)",
        "changes": "(instruction)",
    },
    "coderun": {"run_code": "(machine, code, inputs, *, fuel)"},
    "listing": {"show_code": "(machine, code)", "read_code": "(machine, text)"},
    "emit": {"emit": "(machine, function)", "tied": "(machine, wide)"},
    "depend": {"depends": "(machine, rows)", "needs": "(machine, instruction)", "gives": "(instruction)"},
    "schedule": {
        "is_schedule": "(machine, rows, cycles)", "schedule_length": "(machine, rows, cycles)",
        "list_schedule": "(machine, rows)", "least_schedule": "(machine, rows)", "in_order": "(rows, cycles)",
    },
    "live": {"live_at": "(machine, wide)", "meetings": "(machine, wide)"},
    "colour": {"assign": "(machine, wide, fixed)"},
    "moves": {"sequence": "(pairs, spare)"},
    "terms": {"Terms": "(width)"},
    "checker": {
        "check": "(machine, function, code, certificate)", "refusal": "(machine, function, code, certificate)",
    },
    "judge": {"judge": "(width, inputs, first, second)", "judge_sequence": "(machine, inputs, sequence, e)"},
    "sequences": {
        "sequence_value": "(machine, sequence, words)", "sequence_cost": "(machine, sequence)",
        "least_sequence": "(machine, inputs, e, numbers, most)",
    },
    "forms": {
        "table_faults": "(machine, value)", "overlaps": "(machine, table)",
        "encode": "(machine, table, item, distance)", "decode": "(machine, table, word)",
    },
    "assemble": {"assemble": "(machine, table, code)", "disassemble": "(machine, table, words, params)"},
    "backend": {
        "build": "(machine, function, *, ordered=True)", "trim": "(machine, function, code, certificate)",
    },
    "house": {"House": "(machine, function)"},
    "packing": {"pack": "(value)", "unpack": "(data)"},
}

METHODS = {
    ("terms", "Terms"): {
        "number": "(self, n)", "leaf": "(self, name)", "apply": "(self, op, parts)",
        "load": "(self, address, stores)", "same": "(self, a, b)", "value_of": "(self, t, look, loads)",
    },
    ("house", "House"): {
        "code": "(self)", "certificate": "(self)", "cost": "(self)", "run": "(self, inputs, *, fuel)",
        "same": "(self, inputs, *, fuel)", "listing": "(self)", "change": "(self, machine)", "report": "(self)",
    },
}

# Its tiles of the kind a nest without a limit, and so do its covers.
NESTING = (
    8,
    4,
    0,
    (1, 1, 1),
    (
        ("nots", "a", ("not", ("not", ("not", ("not", ("not", ("nt", "a")))))), 1, 1, 0, ()),
        ("rega", "a", REG, 1, 1, 0, ()),
        ("ab", "a", ("nt", "b"), 1, 1, 0, ()),
        ("li", "reg", ("imm", 0, 1), 1, 1, 0, ()),
        ("not", "reg", ("not", REG), 1, 1, 0, ()),
        ("wr", "", ("write", ("nt", "a")), 1, 1, 0, ()),
        ("bc", "b", ("nt", "c"), 1, 1, 0, ()),
        ("cd", "c", ("nt", "d"), 1, 1, 0, ()),
        ("da", "d", ("not", ("nt", "a")), 0, 1, 0, ()),
        ("ba", "b", ("nt", "a"), 1, 1, 0, ()),
    ),
)


def deepest(call):
    """How deep the function of the package that nests deepest nests its own calls."""
    active, most = {}, [0]

    def watch(frame, event, _):
        code = frame.f_code
        if "leasttiles" not in code.co_filename:
            return
        if event == "call":
            active[code] = active.get(code, 0) + 1
            most[0] = max(most[0], active[code])
        elif event == "return":
            active[code] -= 1

    sys.setprofile(watch)
    try:
        call()
    finally:
        sys.setprofile(None)
    return most[0]


class Interface(unittest.TestCase):
    def test_names_and_arguments(self):
        for module_name, names in INTERFACE.items():
            module = importlib.import_module(f"leasttiles.{module_name}")
            for name, arguments in names.items():
                found = getattr(module, name)
                self.assertEqual(found.__module__, f"leasttiles.{module_name}", name)
                if arguments is not None:
                    self.assertEqual(str(inspect.signature(found)), arguments, name)

    def test_methods_stand_in_their_classes(self):
        for (module_name, class_name), names in METHODS.items():
            found = getattr(importlib.import_module(f"leasttiles.{module_name}"), class_name)
            for name, arguments in names.items():
                self.assertIn(name, vars(found))
                self.assertEqual(str(inspect.signature(vars(found)[name])), arguments, name)

    def test_trace_is_a_generator_function(self):
        self.assertTrue(inspect.isgeneratorfunction(trace))
        self.assertFalse(inspect.isgeneratorfunction(run))


class Depth(unittest.TestCase):
    def test_functions(self):
        e = nest("not", ("var", 3), 20)
        item = ("store", e, e)
        function = (16, 0, ((0, (item,) * 60, ("if", e, 1, 1)), (1, (), ("return", e))))
        self.assertEqual(function_faults(function), [])
        for call in (
            lambda: function_faults(function),
            lambda: function_faults(wrap(1, 50000)),
            lambda: function_faults((8, 0, ((0, (("write", nest("not", 1, 50000)),), ("return", 1)),))),
            lambda: live_in(function),
            lambda: uses(e),
            lambda: run(function, (), fuel=5),
            lambda: list(trace(function, (), fuel=5)),
        ):
            self.assertLessEqual(deepest(call), 100)

    def test_texts(self):
        e = nest("not", ("var", 3), 20)
        function = (8, 0, ((0, (("write", e),), ("return", e)),))
        text = show_function(function)

        def too_deep():
            with self.assertRaises(TextError):
                read_function(text.replace("v3", "(" * 50000))

        for call in (
            lambda: show_function(function),
            lambda: show_expression(e),
            lambda: self.assertEqual(read_function(text), function),
            too_deep,
            lambda: read_machine(show_machine(NESTING)),
        ):
            self.assertLessEqual(deepest(call), 100)

    def test_tiles(self):
        tile = (1, ())
        for _ in range(89):
            tile = (0, (tile,))
        self.assertTrue(is_tile(NESTING, "a", tile))
        for call in (
            lambda: machine_faults(wrap(1, 50000)),
            lambda: machine_faults((*NESTING[:4], (("x", "reg", nest("not", REG, 50000), 1, 1, 0, ()),))),
            lambda: is_tile(NESTING, "a", tile),
            lambda: is_tile(NESTING, "a", (0, (tile,))),
            lambda: is_tile(NESTING, "a", wrap(1, 50000)),
            lambda: leaves(NESTING, tile),
            lambda: whole_pattern(NESTING, tile),
            lambda: tile_cost(NESTING, tile),
            lambda: are_operands(NESTING, tile, (0,)),
            lambda: ties_kept(NESTING, tile, 0, (0,)),
            lambda: tile_value(NESTING, tile, (0,), [1], []),
        ):
            self.assertLessEqual(deepest(call), 100)

    def test_covers(self):
        tree = ("write", nest("not", ("int", 1), 20))
        cover = least_cover(NESTING, tree, "")[1]
        long_way = (1, (("var", 0),))
        for _ in range(20000):
            long_way = (2, ((9, (long_way,)),))
        function = (8, 0, ((0, (tree,) * 60, ("go", 1)), (1, (), ("return", tree[1]))))
        for call in (
            lambda: self.assertIsNotNone(least_cover(NESTING, tree, "")),
            lambda: cover_cost(NESTING, tree, "", cover),
            lambda: self.assertEqual(cover_cost(NESTING, ("write", ("var", 0)), "", (5, (long_way,))), 40002),
            lambda: cover_cost(NESTING, ("int", 1), "a", wrap(1, 50000)),
            lambda: holes(NESTING, 5, tree),
            lambda: uncovered(NESTING, function),
            lambda: parts(tree),
            lambda: check_costs(NESTING, tree, cost_table(NESTING, tree)),
            lambda: check_costs(NESTING, tree, wrap(1, 50000)),
        ):
            self.assertLessEqual(deepest(call), 100)


    def test_code(self):
        tile = (1, ())
        for _ in range(88):
            tile = (0, (tile,))
        code = ((0,), ((0, (("tile", (5, (tile,)), -1, (0,)),), ("go", 0)),))
        text = show_code(NESTING, code)
        for call in (
            lambda: self.assertEqual(code_faults(NESTING, code), []),
            lambda: code_faults(NESTING, wrap(1, 50000)),
            lambda: code_faults(NESTING, ((), ((0, (wrap(1, 50000),), wrap(1, 50000)),))),
            lambda: cost_of(NESTING, code),
            lambda: reads(NESTING, code[1][0][1][0]),
            lambda: run_code(NESTING, code, (5,), fuel=5),
            lambda: show_code(NESTING, code),
            lambda: self.assertEqual(read_code(NESTING, text), code),
            lambda: read_code(NESTING, text.replace("rega", "nots[" * 5000 + "rega" + "]" * 5000)),
            lambda: tied(NESTING, code),
        ):
            self.assertLessEqual(deepest(call), 100)

    def test_emit(self):
        # Each part is covered by way of all four kinds and a register: the covers nest more than 100 deep.
        steps = ("ab", "bc", "cd", "da")
        rules = [(name, name[0], ("nt", name[1]), 1, 1, 0, ()) for name in steps[:3]]
        rules += [("dreg", "d", REG, 1, 1, 0, ()), ("nota", "reg", ("not", ("nt", "a")), 1, 1, 0, ()),
                  ("wr", "", ("write", ("nt", "a")), 1, 1, 0, ()), ("ret", "", ("return", REG), 1, 1, 0, ())]
        machine = with_rules(NESTING, rules=tuple(rules))
        tree = ("write", nest("not", ("var", 1), 25))
        function = (8, 2, ((0, (tree,) * 3, ("return", ("var", 0))),))
        self.assertLessEqual(deepest(lambda: emit(machine, function)), 100)
        wide = emit(machine, function)
        self.assertEqual(run_code(machine, wide, (3, 5), fuel=1), run(function, (3, 5), fuel=1))
        operand = tile_of_name(machine, "ab", (1, ((2, ((3, ()),)),)))
        self.assertEqual(wide[1][0][1][0], ("tile", (4, (operand,)), 100, (1,)))
        tree = ("write", nest("not", ("int", 1), 20))
        function = (8, 0, ((0, (tree,), ("go", 1)), (1, (), ("go", 1))))
        self.assertLessEqual(deepest(lambda: emit(NESTING, function)), 100)
        self.assertLessEqual(deepest(lambda: tied(NESTING, emit(NESTING, function))), 100)

    def test_orders(self):
        machine = full_machine(Dice(2), 8, 16, 8)
        add = tile_of_name(machine, "addq")
        rows = tuple(("tile", add, at + 1, (at, at)) for at in range(3000))
        for call in (
            lambda: depends(machine, rows),
            lambda: self.assertTrue(is_schedule(machine, rows, list_schedule(machine, rows))),
            lambda: least_schedule(machine, rows[:8]),
            lambda: least_schedule(machine, rows[:16:2]),
            lambda: is_schedule(machine, rows, wrap(1, 50000)),
        ):
            self.assertLessEqual(deepest(call), 100)

    def test_registers(self):
        machine = untied(full_machine(Dice(2), 8, 4, 64))
        add, ret = tile_of_name(machine, "addq"), tile_of_name(machine, "ret")
        rows = tuple(("tile", add, at % 50 + 1, (at % 50, 0)) for at in range(3000))
        blocks = [(label, rows[label:label + 9], ("go", label + 1)) for label in range(900)]
        wide = ((0, 1), (*blocks, (900, rows, ("return", ret, (30,)))))
        pairs = tuple((at, (at + 1) % 3000) for at in range(3000))
        for call in (
            lambda: live_at(machine, wide),
            lambda: meetings(machine, wide),
            lambda: assign(machine, wide, ()),
            lambda: sequence(pairs, 5000),
            lambda: sequence(pairs[1:], 5000),
        ):
            self.assertLessEqual(deepest(call), 100)


    def test_checker(self):
        machine = untied(full_machine(Dice(2), 8, 8, 64))
        e = nest("not", ("add", ("var", 3), ("load", ("var", 1))), 19)
        body = tuple(item for v in range(20) for item in (("set", v, e), ("store", e, ("var", v)), ("write", e)))
        function = (8, 2, ((0, body, ("go", 1)), (1, (), ("return", e))))
        code, certificate = built(machine, function)
        terms = Terms(8)

        def long_chain():
            t = terms.leaf(("a",))
            for number in range(5000):
                t = terms.apply("xor", (terms.load(t, number), terms.apply("not", (t,))))
            loads = {(at, number): 7 for at in range(16) for number in range(5000)}
            self.assertEqual(terms.value_of(t, {("a",): 1}, loads) & 1, 1)

        for call in (
            long_chain,
            lambda: self.assertTrue(check(machine, function, code, certificate)),
            lambda: refusal(machine, function, code, wrap(1, 50000)),
            lambda: refusal(machine, function, wrap(1, 50000), certificate),
        ):
            self.assertLessEqual(deepest(call), 100)

    def test_sequences(self):
        tile = (1, ())
        for _ in range(88):
            tile = (0, (tile,))
        machine = with_rules(NESTING, rules=(*NESTING[4], ("rega2", "reg", ("nt", "a"), 1, 1, 0, ())))
        items = tuple(((10, (tile,)), (at,)) for at in range(300))
        for call in (
            lambda: self.assertEqual(sequence_value(machine, items, (5,)), 5),
            lambda: sequence_cost(machine, items),
            lambda: judge_sequence(machine, 1, items[:3], nest("neg", ("var", 0), 20)),
            lambda: judge(8, 2, nest("neg", ("var", 0), 20), ("var", 1)),
            lambda: least_sequence(machine, 1, nest("not", ("var", 0), 20), (0, 1), 9),
        ):
            self.assertLessEqual(deepest(call), 100)


    def test_forms(self):
        tile = (1, ())
        for _ in range(88):
            tile = (0, (tile,))
        shape = (5, (tile,))
        machine = with_rules(NESTING, rules=(*NESTING[4], ("ret", "", ("return", REG), 1, 1, 0, ())))
        table = ((shape, (("bits", 1, 1), ("leaf", 0, 31))), ((10, ()), (("bits", 1, 0), ("leaf", 0, 31))))
        code = ((0,), ((0, (("tile", shape, -1, (0,)),), ("return", (10, ()), (0,))),))
        words = assemble(machine, table, code)[0]
        for call in (
            lambda: self.assertEqual(table_faults(machine, table), []),
            lambda: table_faults(machine, wrap(1, 50000)),
            lambda: table_faults(machine, ((wrap(1, 50000), ()), (shape, wrap(1, 50000)), ("go", (wrap(1, 50000),)))),
            lambda: overlaps(machine, table),
            lambda: encode(machine, table, code[1][0][1][0], 0),
            lambda: decode(machine, table, words[0]),
            lambda: assemble(machine, table, code),
            lambda: self.assertEqual(disassemble(machine, table, words * 500, (0,))[1][0], code[1][0]),
        ):
            self.assertLessEqual(deepest(call), 100)

    def test_back_end(self):
        machine = untied(full_machine(Dice(2), 8, 8, 64))
        e = nest("not", ("add", ("var", 3), ("load", ("var", 1))), 19)
        body = tuple(item for v in range(5) for item in (("set", v, e), ("store", e, ("var", v)), ("write", e)))
        function = (8, 2, ((0, body, ("go", 1)), (1, (), ("return", e))))

        def too_deep():
            with self.assertRaises(PackError):
                pack(wrap(1, 50000))
            with self.assertRaises(PackError):
                unpack([6, 1] * 50000)

        for call in (
            lambda: House(machine, function).report(),
            lambda: build(machine, function, ordered=False),
            lambda: unpack(pack(wrap((1, "a"), 59))),
            too_deep,
        ):
            self.assertLessEqual(deepest(call), 100)


class Bounds(unittest.TestCase):
    def test_the_largest_function_in_a_house(self):
        dice = Dice(9)
        machine = full_machine(dice, 16, 16, 64, ties=False)
        rows = []
        for label in range(40):
            body = tuple(dice.statement(16, 3) for _ in range(60))
            rows.append((label, body, ("if", ("var", 0), min(label + 1, 39), max(label, 1))))
        function = (16, 6, tuple(rows))
        house = House(machine, function)
        self.assertTrue(check(machine, function, house.code(), house.certificate()))
        self.assertTrue(house.same((1, 2, 3, 4, 5, 6), fuel=60))
        table = any_table(dice, machine, house.code())
        words, addresses = assemble(machine, table, house.code())
        self.assertEqual(len(addresses), 40)
        back = disassemble(machine, table, words, house.code()[0])
        wanted = house.run((1, 2, 3, 4, 5, 6), fuel=60)[0]
        self.assertEqual(run_code(machine, back, (1, 2, 3, 4, 5, 6), fuel=400)[0][:len(wanted)], wanted)
        self.assertEqual(unpack(pack(house.code())), house.code())

    def test_the_longest_blocks_for_the_checker(self):
        # Sums that double, stores and loads at each other's addresses, and products of what came before.
        machine = untied(full_machine(Dice(4), 16, 12, 64))
        body = []
        for k in range(15):
            body.append(("set", 0, ("add", ("add", ("var", 0), ("var", 1)), ("add", ("var", 0), ("var", 2)))))
            body.append(("set", 1, ("mul", ("sub", ("var", 1), ("var", 0)), ("add", ("load", ("var", 0)), ("var", 1)))))
            body.append(("store", ("sub", ("var", 1), ("int", k)), ("add", ("load", ("var", 1)), ("var", 0))))
            body.append(("set", 2, ("sub", ("load", ("var", 2)), ("add", ("var", 0), ("var", 1)))))
        blocks = [(label, tuple(body), ("if", ("var", 0), min(label + 1, 39), max(label, 1))) for label in range(40)]
        function = (16, 3, tuple(blocks))
        code, certificate = built(machine, function)
        self.assertTrue(check(machine, function, code, certificate))
        label, rows, end = code[1][20]
        at = max(at for at, row in enumerate(rows) if row[0] == "tile" and row[2] == -1)
        worse = (*code[1][:20], (label, rows[:at] + rows[at + 1:], end), *code[1][21:])
        self.assertFalse(check(machine, function, (code[0], worse), certificate))
        self.assertEqual(run_code(machine, code, (1, 2, 3), fuel=60), run(function, (1, 2, 3), fuel=60))

    def test_the_largest_code(self):
        dice = Dice(4)
        machine = full_machine(dice, 16, 16, 64)
        rows = []
        for label in range(40):
            body = tuple(dice.statement(16, 5) for _ in range(60))
            rows.append((label, body, ("if", ("var", 0), min(label + 1, 39), max(label, 1))))
        function = (16, 6, tuple(rows))
        wide, _ = tied(machine, emit(machine, function))
        wider = untied(with_rules(machine, registers=100000))
        self.assertEqual(code_faults(wider, wide), [])
        self.assertEqual(read_code(machine, show_code(machine, wide)), wide)
        inputs = (1, 2, 3, 4, 5, 6)
        self.assertEqual(run_code(machine, wide, inputs, fuel=100), run(function, inputs, fuel=100))
        self.assertGreater(cost_of(machine, wide), 2400)

    def test_the_longest_blocks(self):
        # Long blocks of many names, and sixteen variables that are live everywhere.
        dice = Dice(4)
        machine = untied(full_machine(dice, 16, 12, 64))
        rows = []
        for label in range(40):
            body = tuple(("set", dice.number(0, 15), dice.expression(16, 7, 16)) for _ in range(60))
            rows.append((label, body, ("if", ("var", 0), min(label + 1, 39), max(label, 1))))
        function = (16, 6, tuple(rows))
        wide, fixed = tied(machine, emit(machine, function))
        ordered = []
        for label, body, end in wide[1]:
            cycles = list_schedule(machine, body)
            self.assertTrue(is_schedule(machine, body, cycles))
            ordered.append((label, tuple(in_order(body, cycles)), end))
        code, places = assign(machine, (wide[0], tuple(ordered)), fixed)
        self.assertEqual(code_faults(machine, code), [])
        self.assertEqual(len(places), 16)
        inputs = (1, 2, 3, 4, 5, 6)
        self.assertEqual(run_code(machine, code, inputs, fuel=60), run(function, inputs, fuel=60))
        self.assertGreater(len(meetings(machine, wide)), 10000)

    def test_the_largest_function(self):
        dice = Dice(1)
        rows = []
        for label in range(40):
            body = tuple(dice.statement(16, 6) for _ in range(60))
            rows.append((label, body, ("if", ("var", 0), min(label + 1, 39), max(label, 1))))
        function = (16, 6, tuple(rows))
        self.assertEqual(function_faults(function), [])
        self.assertEqual(len(live_in(function)), 40)
        self.assertEqual(run(function, (1, 2, 3, 4, 5, 6), fuel=300)[2], 300)

    def test_somewhat_beyond(self):
        e = nest("neg", ("var", 120), 30)
        rows = tuple((label, (("write", e),) * 70, ("go", label + 1)) for label in range(1000, 1050))
        function = (20, 8, (*rows, (1050, (), ("return", e))))
        self.assertEqual(run(function, (1,) * 8, fuel=100)[2], 51)
        self.assertEqual(live_in(function)[0], (1000, (120,)))
        self.assertEqual(uses(e), (120,))
        self.assertEqual(read_function(show_function((8, 0, ((0, (), ("return", nest("neg", ("var", 120), 20))),)))),
                         (8, 0, ((0, (), ("return", nest("neg", ("var", 120), 20))),)))

    def test_the_largest_machine(self):
        for seed in range(3):
            dice = Dice(seed)
            machine = dice.machine(16, 60, ("a", "b", "c", "d"), 5)
            self.assertEqual(machine_faults(machine), [])
            self.assertEqual(read_machine(show_machine(machine)), machine)
            function = (16, 0, tuple((label, tuple(dice.statement(16, 6) for _ in range(60)), ("return", ("int", 0)))
                                     for label in range(5)))
            self.assertLessEqual(len(uncovered(machine, function)), 305)
            tree = dice.small_tree(16, 9)
            self.assertTrue(check_costs(machine, tree, cost_table(machine, tree)))


if __name__ == "__main__":
    unittest.main()
