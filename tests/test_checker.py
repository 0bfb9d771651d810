"""Certificates and what the checker refuses ([8.1], [8.3])."""

import unittest

from build_samples import any_pair, built
from code_samples import full_machine, tile_of_name, untied, with_rules
from leasttiles.checker import check, refusal
from leasttiles.machines import machine_faults
from leasttiles.functions import function_faults
from samples import MACHINE, REG, Dice, wrap

SMALL = ("imm", 0, 300)

# The usual ops, with no ties.
PLAIN = (
    8, 4, 8, (1, 3, 2),
    (
        ("li", "reg", SMALL, 1, 1, 0, ()),
        ("add", "reg", ("add", REG, REG), 1, 1, 0, ()),
        ("sub", "reg", ("sub", REG, REG), 1, 1, 0, ()),
        ("addi", "reg", ("add", REG, ("imm", -128, 300)), 1, 1, 0, ()),
        ("ld", "reg", ("load", REG), 1, 1, 0, ()),
        ("st", "", ("store", REG, REG), 1, 1, 0, ()),
        ("wr", "", ("write", REG), 1, 1, 0, ()),
        ("br", "", ("branch", REG), 1, 1, 0, ()),
        ("brz", "", ("branch", ("equal", REG, ("imm", 0, 9))), 1, 1, 0, ()),
        ("ret", "", ("return", REG), 1, 1, 0, ()),
        ("wrsum", "", ("write", ("nt", "sum")), 1, 1, 0, ()),
        ("sumr", "sum", ("add", REG, REG), 1, 1, 0, ()),
        ("add3", "reg", ("add", REG, ("nt", "sum")), 1, 1, 0, ()),
    ),
)


def v(number):
    return ("var", number)


def number(word):
    return ("int", word)


def tile(name, d, *operands):
    return ("tile", tile_of_name(PLAIN, name), d, operands)


def ret(r):
    return ("return", tile_of_name(PLAIN, "ret"), (r,))


def branch(r, one, other):
    return ("branch", tile_of_name(PLAIN, "br"), (r,), one, other)


def move(d, s):
    return ("move", d, s)


def claims(**names):
    """Claims by their places, r3=0 for variable 0 in register 3."""
    found = [(variable, ("reg" if name[0] == "r" else "cell", int(name[1:]))) for name, variable in names.items()]
    return tuple(sorted(found))


FUNCTION = (8, 2, (
    (3, (("set", 2, ("add", v(0), v(1))), ("write", v(2)), ("store", v(0), v(2)), ("store", v(1), v(0))), ("go", 5)),
    (5, (("set", 2, ("sub", v(2), number(1))), ("write", ("load", v(0))), ("set", 3, v(0))), ("if", v(2), 5, 1)),
    (1, (("write", v(3)),), ("return", v(2))),
))
ENTRY = (3, (tile("add", 2, 0, 1), tile("wr", -1, 2), tile("st", -1, 0, 2), tile("st", -1, 1, 0)), ("go", 5))
LOOP = (5, (tile("addi", 2, 2, -1), tile("ld", 1, 0), tile("wr", -1, 1), ("spill", 4, 0)), branch(2, 5, 1))
LAST = (1, (("fill", 0, 4), tile("wr", -1, 0)), ret(2))
CODE = ((0, 1), (ENTRY, LOOP, LAST))
CERTIFICATE = ((1, claims(r2=2, c4=3)), (5, claims(r0=0, r2=2)))


def with_block(block, code=CODE):
    """The code with another block in the place of the one of this label."""
    return (code[0], tuple(block if old[0] == block[0] else old for old in code[1]))


def with_claims(label, row, certificate=CERTIFICATE):
    return tuple((old, row if old == label else mine) for old, mine in certificate)


def returning(body, e, params=2):
    """A function of one block."""
    return (8, params, ((0, tuple(body), ("return", e)),))


class Refusals(unittest.TestCase):
    def refused(self, wanted, code=CODE, certificate=CERTIFICATE, function=FUNCTION, machine=PLAIN):
        self.assertEqual(refusal(machine, function, code, certificate), wanted)
        self.assertIs(check(machine, function, code, certificate), wanted is None)

    def takes(self, function, rows, end, params=(0, 1), wanted=None):
        """See that code of one block is taken, or refused for a reason."""
        self.refused(wanted and (0, wanted), (params, ((0, tuple(rows), end),)), (), function)

    def test_the_samples(self):
        self.assertEqual((machine_faults(PLAIN), function_faults(FUNCTION)), ([], []))
        self.refused(None)
        self.refused(None, ((0, 1), (ENTRY, LAST, LOOP)))

    def test_code(self):
        cases = [None, 5, (), CODE[1], (CODE[0],), (CODE[0], ()), list(CODE), (CODE[0], list(CODE[1])), wrap(1, 5000)]
        cases.append(with_block((3, (tile("add", 4, 0, 1), *ENTRY[1][1:]), ("go", 5))))
        cases.append(with_block((3, (*ENTRY[1], ("spill", 8, 0)), ("go", 5))))
        cases.append(with_block((1, LAST[1], ("go", 4))))
        cases += [(CODE[0], (ENTRY, LOOP)), (CODE[0], (*CODE[1], LOOP)), (CODE[0], (*CODE[1], (7, (), ("go", 5))))]
        cases += [(CODE[0], (ENTRY, LOOP, (2, *LAST[1:]))), (CODE[0], (LOOP, ENTRY, LAST)), (CODE[0], (LAST, LOOP, ENTRY))]
        cases += [((0,), CODE[1]), ((), CODE[1]), ((0, 1, 3), CODE[1]), ((0, 0), CODE[1]), ((0, True), CODE[1])]
        for code in cases:
            self.refused((-1, "code"), code)
            self.refused((-1, "code"), code, "nothing")

    def test_code_that_breaks_a_tie(self):
        function = (8, 1, ((0, (("write", v(0)),), ("return", v(0))),))
        write, back = tile_of_name(MACHINE, "wr"), tile_of_name(MACHINE, "ret")
        code = ((1,), ((0, (("tile", write, -1, (1,)), move(0, 1)), ("return", back, (0,))),))
        self.refused(None, code, (), function, MACHINE)
        code = ((0,), ((0, (("tile", write, -1, (0,)),), ("return", back, (0,))),))
        self.refused((-1, "code"), code, (), function, MACHINE)

    def test_form(self):
        one, five = CERTIFICATE
        cases = [None, True, 1, "", (), [], one, (one,), (five,), (five, one), (one, one), (one, one, five), list(CERTIFICATE)]
        cases += [(one, five, five), ((3, ()), *CERTIFICATE), (one, (3, ()), five), (one, (4, five[1])), wrap((), 5000)]
        cases += [(list(one), five), ((True, one[1]), five), ((1,), five), ((*one, ()), five), ((1, list(one[1])), five)]
        cases += [((1, None), five), ((1, wrap(1, 5000)), five), ("ab", five), (one, ("5", five[1]))]
        for certificate in cases:
            self.refused((-1, "form"), certificate=certificate)
        self.refused((-1, "form"), ((2, 3), CODE[1]), ())

    def test_form_of_claims(self):
        for row in (
            ((2, ("cell", 4)), (2, ("cell", 4))), ((2, ("reg", 2)), (3, ("reg", 2))), ((3, ("cell", 4)), (2, ("reg", 2))),
            ((2, ("reg", 2)), (2, ("cell", 2))), ((2, ("reg", 4)),), ((2, ("cell", 8)),), ((2, ("reg", -1)),),
            ((100, ("reg", 2)),), ((-1, ("reg", 2)),), ((True, ("reg", 2)),), ((2, ("reg", True)),), ((2, ["reg", 2]),),
            ([2, ("reg", 2)],), [(2, ("reg", 2))], ((2, ("place", 2)),), ((2, ("reg",)),), ((2, ("reg", 2, 2)),),
            ((2, ("reg", 2), 0),), ((2,),), (2,), (None,), ((2, None),), ((None, ("reg", 2)),), ((2, (1, 2)),),
            ((2, ("reg", "2")),), (("2", ("reg", 2)),), ((2, wrap(1, 5000)),), (wrap(1, 5000),), None, 3, "r2",
        ):
            self.refused((-1, "form"), certificate=with_claims(1, row))
        self.refused((-1, "form"), machine=with_rules(PLAIN, frame=8), certificate=with_claims(1, ((3, ("cell", 8)),)))

    def test_a_variable_may_stand_at_two_places(self):
        self.refused(None, with_block((5, (*LOOP[1], move(3, 0)), LOOP[2])),
                     with_claims(1, claims(r2=2, c4=3, r3=3, r0=3)))
        self.refused(None, with_block((5, (*LOOP[1], ("spill", 0, 2)), LOOP[2])), with_claims(1, claims(c0=2, r2=2, c4=3)))

    def test_a_variable_that_never_changes(self):
        # Variable 99 is 0 at the entry, as all other registers and cells are, and stands in any of them.
        certificate = ((1, claims(r2=2, c4=3, c7=99)), (5, claims(r0=0, r2=2, c7=99)))
        self.refused(None, certificate=certificate)
        self.refused(None, certificate=((1, claims(r2=2, c4=3, c7=99)), (5, claims(r0=0, r2=2, r3=99, c7=99))))
        self.refused((5, "claim"), certificate=((1, claims(r2=2, c4=3, c7=99)), (5, claims(r0=0, r2=2, r3=99))))
        self.refused((3, "claim"), certificate=((1, claims(r2=2, c4=3)), (5, claims(r0=0, r2=2, r1=99))))

    def test_store(self):
        first, second, third, fourth = ENTRY[1]
        for rows in (
            (first, second, third), (first, second, fourth, third), (first, second, third, fourth, fourth),
            (first, second), (first, second, tile("st", -1, 0, 1), fourth), (first, second, tile("st", -1, 1, 2), fourth),
            (first, third, fourth, move(3, 1), tile("st", -1, 3, 0), second), (second, third, first, fourth),
        ):
            self.refused((3, "store"), with_block((3, rows, ("go", 5))))
        self.refused((5, "store"), with_block((5, (*LOOP[1], tile("st", -1, 0, 2)), LOOP[2])))
        for rows in ((first, third, second, fourth), (first, third, fourth, second), (first, second, third, move(3, 1),
                                                                                     tile("st", -1, 3, 0))):
            self.refused(None, with_block((3, rows, ("go", 5))))

    def test_write(self):
        first, second, third, fourth = ENTRY[1]
        for rows in ((first, third, fourth), (first, second, second, third, fourth), (second, first, third, fourth),
                     (first, tile("wr", -1, 0), third, fourth)):
            self.refused((3, "write"), with_block((3, rows, ("go", 5))))
        body = (("write", v(0)), ("write", v(1)))
        self.takes(returning(body, v(0)), (tile("wr", -1, 0), tile("wr", -1, 1)), ret(0))
        self.takes(returning(body, v(0)), (tile("wr", -1, 1), tile("wr", -1, 0)), ret(0), wanted="write")
        wrsum = ("tile", tile_of_name(PLAIN, "wrsum", tile_of_name(PLAIN, "sumr")), -1, (1, 0))
        self.takes(returning([("write", ("add", v(0), v(1)))], v(0)), (wrsum,), ret(0))
        self.takes(returning([("write", ("add", v(0), v(0)))], v(0)), (wrsum,), ret(0), wanted="write")

    def test_writes_beside_stores_and_loads(self):
        function = returning((("write", ("load", v(0))), ("store", v(0), v(1)), ("write", ("load", v(0)))), v(1))
        early, late = tile("ld", 2, 0), tile("ld", 3, 0)
        put, one, two = tile("st", -1, 0, 1), tile("wr", -1, 2), tile("wr", -1, 3)
        for rows in ((early, one, put, late, two), (early, put, one, late, two), (early, put, late, one, two)):
            self.takes(function, rows, ret(1))
        for rows in ((early, late, put, one, two), (put, early, one, late, two), (early, put, late, two, one)):
            self.takes(function, rows, ret(1), wanted="write")
        self.takes(function, (early, one, late, two), ret(1), wanted="store")

    def test_end(self):
        for end in (branch(0, 5, 1), branch(2, 1, 5), branch(2, 5, 5), branch(2, 1, 1), ("go", 5), ("go", 1), ret(2),
                    ("branch", tile_of_name(PLAIN, "brz"), (2, 0), 5, 1)):
            self.refused((5, "end"), with_block((5, LOOP[1], end)))
        for end in (ret(0), ret(3), ("go", 5), ("go", 1), branch(2, 5, 5)):
            self.refused((1, "end"), with_block((1, LAST[1], end)))
        for end in (("go", 1), branch(2, 5, 5), ret(2)):
            self.refused((3, "end"), with_block((3, ENTRY[1], end)))
        self.refused(None, with_block((5, (*LOOP[1], move(3, 2)), branch(3, 5, 1))))
        self.refused(None, with_block((1, (*LAST[1], move(3, 2)), ret(3))))

    def test_both_ways_to_one_label(self):
        function = (8, 1, ((0, (), ("if", v(0), 1, 1)), (1, (), ("return", number(0)))))
        last = (1, (tile("li", 0, 0),), ret(0))
        for end, wanted in ((branch(2, 1, 1), None), (branch(0, 1, 1), (0, "end")), (("go", 1), (0, "end"))):
            self.refused(wanted, ((2,), ((0, (), end), last)), ((1, ()),), function)
        function = (8, 1, ((0, (), ("go", 1)), function[2][1]))
        self.refused((0, "end"), ((2,), ((0, (), branch(2, 1, 1)), last)), ((1, ()),), function)
        self.refused(None, ((2,), ((0, (), ("go", 1)), last)), ((1, ()),), function)

    def test_claim(self):
        for row in (claims(r2=2, c4=3, c5=3), claims(r2=2, c4=3, r3=2), claims(r2=2, c4=3, r1=0),
                    claims(r2=2, c4=3, r0=1), claims(r2=2, c4=3, c0=2), claims(r2=2, c4=3, r1=98)):
            self.refused((5, "claim"), certificate=with_claims(1, row))
        for row in (claims(r2=2, c4=3, r0=0), claims(r2=2, c4=3, r0=3)):
            self.refused(None, certificate=with_claims(1, row))
        for row in (claims(r0=0, r1=0, r2=2), claims(r0=0, r2=2, r3=1), claims(r0=0, r1=99, r2=2), claims(r0=0, c1=2, r2=2)):
            self.refused((3, "claim"), certificate=with_claims(5, row))
        # Variable 3 and the cell are 0 at the entry, and both are variable 0 behind the loop.
        self.refused(None, certificate=with_claims(5, claims(r0=0, r2=2, c4=3)))
        self.refused((5, "claim"), certificate=with_claims(5, claims(r0=0, r2=2, c4=98)))
        # The claim holds on one way of the end and not on the other one.
        self.refused((5, "claim"), with_block((5, (*LOOP[1], tile("li", 0, 0)), LOOP[2])))
        self.refused(None, with_block((5, (*LOOP[1], tile("li", 1, 0)), LOOP[2])))
        self.refused((5, "claim"), with_block((5, LOOP[1][:-1], LOOP[2])))

    def test_claims_that_are_not_made(self):
        # What is read and claimed nowhere is unknown.
        self.refused((1, "end"), certificate=with_claims(1, claims(c4=3)))
        self.refused((1, "write"), certificate=with_claims(1, claims(r2=2)))
        self.refused((5, "end"), certificate=with_claims(5, claims(r0=0)))
        self.refused((5, "write"), certificate=with_claims(5, claims(r2=2)))
        self.refused((1, "write"), certificate=((1, ()), (5, ())))
        # An unknown word is the same wherever it is read in one block.
        function = (8, 0, ((0, (), ("go", 1)), (1, (("write", ("sub", v(0), v(0))),), ("return", number(0)))))
        rows = (("fill", 1, 6), tile("sub", 0, 1, 1), tile("wr", -1, 0))
        self.refused(None, ((), ((0, (), ("go", 1)), (1, rows, ret(0)))), ((1, ()),), function)
        rows = (("fill", 1, 6), ("fill", 2, 5), tile("sub", 0, 1, 2), tile("wr", -1, 0))
        self.refused((1, "write"), ((), ((0, (), ("go", 1)), (1, rows, ret(0)))), ((1, ()),), function)
        # No place has a variable's name.
        rows = (tile("wr", -1, 0),)
        function = (8, 0, ((0, (), ("go", 1)), (1, (("write", v(0)),), ("return", v(0)))))
        self.refused((1, "write"), ((), ((0, (), ("go", 1)), (1, rows, ret(0)))), ((1, ()),), function)
        self.refused(None, ((), ((0, (), ("go", 1)), (1, rows, ret(0)))), ((1, claims(r0=0)),), function)

    def test_the_first_reason(self):
        first, second, third, fourth = ENTRY[1]
        bad_claim = with_claims(5, claims(r0=0, r2=2, r1=7))
        wrong = move(0, 3)
        self.refused((3, "store"), with_block((3, (first, third), ("go", 1))), bad_claim)
        self.refused((3, "write"), with_block((3, (first, third, fourth), ("go", 1))), bad_claim)
        self.refused((3, "end"), with_block((3, (first, second, third, fourth), ("go", 1))), bad_claim)
        self.refused((3, "claim"), with_block((3, (first, second, third, fourth, wrong), ("go", 5))), bad_claim)
        self.refused((3, "store"), with_block((3, (second, third), ("go", 5))))

    def test_the_first_block_by_label(self):
        bad_entry, bad_loop, bad_last = (3, ENTRY[1][:3], ("go", 5)), (5, LOOP[1], ret(2)), (1, LAST[1], ret(0))
        self.refused((3, "store"), ((0, 1), (bad_entry, bad_loop, LAST)))
        self.refused((1, "end"), ((0, 1), (bad_entry, bad_loop, bad_last)))
        self.refused((1, "end"), ((0, 1), (ENTRY, bad_last, bad_loop)))
        self.refused((5, "end"), ((0, 1), (ENTRY, bad_loop, LAST)))
        self.refused((-1, "form"), ((0, 1), (bad_entry, bad_loop, bad_last)), ())
        self.refused((-1, "code"), ((0,), (bad_entry, bad_loop, bad_last)), ())

    def test_the_entry(self):
        # The inputs stand in params in their order, and all else is 0.
        self.takes(returning([], ("sub", v(0), v(1))), (tile("sub", 2, 3, 1),), ret(2), params=(3, 1))
        self.takes(returning([], ("sub", v(0), v(1))), (tile("sub", 2, 3, 1),), ret(2), params=(1, 3), wanted="end")
        self.takes(returning([], number(0)), (), ret(2))
        self.takes(returning([], v(2)), (), ret(3))
        self.takes(returning([], v(99)), (("fill", 0, 7),), ret(0))
        self.takes(returning([], number(0)), (tile("add", 3, 2, 3),), ret(3))
        self.takes(returning([], v(0)), (tile("add", 0, 0, 2),), ret(0))
        self.takes(returning([], number(0)), (), ret(1), wanted="end")
        self.takes(returning([], v(1), params=1), (), ret(1), params=(0,))
        self.takes(returning([], v(1), params=1), (), ret(0), params=(0,), wanted="end")
        # The memory is 0, too, but a load is no number.
        self.takes(returning([], ("load", number(3))), (tile("ld", 0, 2),), ret(0), wanted="end")
        self.takes(returning([], ("load", number(3))), (tile("li", 0, 3), tile("ld", 0, 0)), ret(0))
        self.takes(returning([], number(0)), (tile("ld", 0, 2),), ret(0), wanted="end")

    def test_words_of_operands(self):
        self.takes(returning([], number(44)), (tile("li", 0, 300),), ret(0))
        self.takes(returning([], ("sub", v(0), number(1))), (tile("addi", 0, 0, -1),), ret(0))
        self.takes(returning([], ("sub", v(0), number(1))), (tile("addi", 0, 0, 255),), ret(0))
        self.takes(returning([], ("sub", v(0), number(1))), (tile("addi", 0, 0, 1),), ret(0), wanted="end")

    def test_what_instructions_do(self):
        add3 = ("tile", tile_of_name(PLAIN, "add3", tile_of_name(PLAIN, "sumr")), 0, (0, 1, 1))
        self.takes(returning([], ("add", ("add", v(0), v(1)), v(1))), (add3,), ret(0))
        self.takes(returning([], v(1)), (move(0, 1),), ret(0))
        self.takes(returning([], v(1)), (("spill", 3, 1), tile("li", 1, 9), ("fill", 2, 3)), ret(2))
        self.takes(returning([], v(1)), (("spill", 3, 1), ("spill", 3, 0), ("fill", 2, 3)), ret(2), wanted="end")
        self.takes(returning([], v(0)), (("spill", 2, 0), ("spill", 3, 1), ("fill", 1, 2)), ret(1))
        function = (8, 1, ((0, (), ("if", ("equal", number(3), v(0)), 2, 1)), (1, (), ("return", number(0))),
                           (2, (), ("return", number(1)))))
        code = ((2,), ((0, (), ("branch", tile_of_name(PLAIN, "brz"), (2, 3), 2, 1)),
                       (1, (tile("li", 1, 0),), ret(1)), (2, (tile("li", 1, 1),), ret(1))))
        self.refused(None, code, ((1, ()), (2, ())), function)

    def test_a_cell_or_register_that_the_machine_has_not(self):
        less = with_rules(PLAIN, frame=4)
        self.refused((-1, "code"), machine=less)
        without = with_block((5, LOOP[1][:-1], LOOP[2]), with_block((1, (tile("wr", -1, 0),), ret(2))))
        self.refused((-1, "form"), without, machine=less)
        self.refused(None, without, ((1, claims(r0=3, r2=2)), CERTIFICATE[1]), machine=less)
        self.refused((-1, "form"), without, ((1, claims(c0=3, r2=2)), CERTIFICATE[1]), machine=with_rules(PLAIN, frame=0))


class Made(unittest.TestCase):
    def test_what_is_made_is_taken(self):
        counts = {"made": 0, "cells": 0, "loops": 0, "ties": 0}
        for seed in range(150):
            found = any_pair(Dice(seed))
            if found is None:
                continue
            machine, function, code, certificate = found
            self.assertIsNone(refusal(machine, function, code, certificate), seed)
            counts["made"] += 1
            counts["cells"] += any(row[0] == "fill" for _, rows, _ in code[1] for row in rows)
            counts["loops"] += any(place[0] == "cell" for _, row in certificate for _, place in row)
            counts["ties"] += machine != untied(machine)
        self.assertGreater(counts["made"], 120)
        self.assertGreater(min(counts.values()), 10, counts)

    def test_nothing_is_changed(self):
        machine, function = untied(full_machine(Dice(3), 8, 6, 8)), FUNCTION
        code, certificate = built(machine, function)
        before = repr((machine, function, code, certificate))
        self.assertIs(check(machine, function, code, certificate), True)
        self.assertEqual(repr((machine, function, code, certificate)), before)


if __name__ == "__main__":
    unittest.main()
