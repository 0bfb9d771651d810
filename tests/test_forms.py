"""Form tables, encoding and decoding ([10.1], [10.2], [10.3], [0.1] point 5)."""

import unittest

from code_samples import any_end, any_instruction, full_machine, tile_of_name, with_rules
from form_samples import any_table, bits_for, shapes_of, things
from leasttiles.forms import decode, encode, overlaps, table_faults
from leasttiles.machines import machine_faults
from samples import REG, Dice, wrap

MACHINE = (
    8, 5, 9, (1, 1, 1),
    (
        ("add", "reg", ("add", REG, REG), 1, 1, 0, ()),
        ("addi", "reg", ("add", REG, ("imm", -128, 127)), 1, 1, 0, ()),
        ("li", "reg", ("imm", 0, 4), 1, 1, 0, ()),
        ("st", "", ("store", ("nt", "adr"), REG), 1, 1, 0, ()),
        ("adr", "adr", ("add", REG, ("nt", "off")), 1, 1, 0, ()),
        ("off", "off", ("imm", -2, 13), 1, 1, 0, ()),
        ("wr", "", ("write", REG), 1, 1, 0, ()),
        ("br", "", ("branch", ("less", REG, ("imm", 5, 5))), 1, 1, 0, ()),
        ("ret", "", ("return", REG), 1, 1, 0, (("needs", 0, 0),)),
        ("one", "reg", ("imm", 1, 1), 1, 1, 0, ()),
    ),
)


def tile(name, *tiles):
    return tile_of_name(MACHINE, name, *tiles)


def bits(size, number=0):
    return ("bits", size, number)


def leaf(k, size):
    return ("leaf", k, size)


def result(size):
    return ("result", size)


def target(size):
    return ("target", size)


ADD, ADDI, LI, WR, BR, RET = tile("add"), tile("addi"), tile("li"), tile("wr"), tile("br"), tile("ret")
ST = tile("st", tile("adr", tile("off")))
FORMS = (
    (ADD, (bits(4, 1), result(3), leaf(0, 3), leaf(1, 3), bits(19))),
    (ADDI, (bits(4, 2), leaf(1, 8), leaf(0, 3), bits(14), result(3))),
    (LI, (bits(4, 3), leaf(0, 3), bits(22), result(3))),
    (ST, (bits(4, 4), leaf(2, 3), leaf(1, 4), leaf(0, 3), bits(18))),
    (WR, (bits(4, 5), bits(25), leaf(0, 3))),
    (BR, (bits(4, 6), leaf(0, 3), leaf(1, 1), target(24))),
    (RET, (bits(4, 7), leaf(0, 28))),
    ("move", (bits(4, 8), result(3), leaf(0, 3), bits(22))),
    ("spill", (bits(4, 9), leaf(1, 3), leaf(0, 4), bits(21))),
    ("fill", (bits(4, 10), leaf(0, 4), result(3), bits(21))),
    ("go", (bits(4, 11), target(8), bits(20, 5))),
)


def any_shape_of(item):
    return item[1] if item[0] in ("tile", "branch", "return") else item[0]


class Faults(unittest.TestCase):
    def faults(self, value, wanted, machine=MACHINE):
        found = table_faults(machine, value)
        self.assertEqual(found, wanted)
        self.assertIs(type(found), list)

    def form(self, fields, codes, shape=ADD, machine=MACHINE):
        """See that a form with these fields, ahead of a right one, has these faults."""
        other = FORMS[7] if shape == "go" else ("go", (target(32),))
        self.faults(((shape, fields), other), [(0, code) for code in codes], machine)

    def test_none(self):
        self.assertEqual(machine_faults(MACHINE), [])
        self.faults((), [])
        self.faults(FORMS, [])
        for form in FORMS:
            self.faults((form,), [])
        self.faults(FORMS[::-1], [])

    def test_form(self):
        for value in (None, True, 0, "move", [], list(FORMS), {}, 1.5):
            self.faults(value, [(-1, "form")])
        self.faults(wrap(1, 50000), [(0, "shape")])

    def test_shape(self):
        fields = FORMS[0][1]
        for form in (
            None, 5, "move", (), (ADD,), (*FORMS[0], 0), list(FORMS[0]), (ADD, list(fields)), (ADD, None), (list(ADD), fields),
            ("moves", fields), ("", fields), ("reg", fields), ("tile", fields), ("branch", fields), (None, fields),
            (0, fields), ((0,), fields), ((True, ()), fields), ((10, ()), fields), ((-1, ()), fields), ((3, ()), fields),
            ((0, ((5, ()),)), fields), ((5, ()), fields), (tile("adr", tile("off")), fields),
            (tile("st", tile("off")), fields), (wrap(1, 50000), fields), (ADD, 7),
        ):
            self.faults((form, FORMS[1]), [(0, "shape")])
            self.faults((FORMS[1], form), [(1, "shape")])

    def test_a_shape_twice(self):
        self.faults((FORMS[0], FORMS[0]), [(1, "shape")])
        self.faults((FORMS[0], FORMS[7], FORMS[0], FORMS[7], FORMS[0]), [(2, "shape"), (3, "shape"), (4, "shape")])
        # An earlier form with this very fault does not count, one with another fault does.
        self.faults(((ADD, None), FORMS[0]), [(0, "shape")])
        self.faults(((ADD, None), FORMS[0], FORMS[0]), [(0, "shape"), (2, "shape")])
        self.faults(((ADD, ()), FORMS[0]), [(0, "field"), (1, "shape")])
        self.faults(((ADD, (bits(32),)), FORMS[0]), [(0, "needs"), (1, "shape")])
        self.faults(((ST, FORMS[3][1]), (tile("st", (4, ((5, ()),))), FORMS[3][1])), [(1, "shape")])
        self.faults(((ADD, ()), (ADD, ())), [(0, "field"), (1, "shape")])

    def test_field(self):
        right = (result(3), leaf(0, 3), leaf(1, 3))
        for bad in (
            None, 7, "bits", (), ("bits", 23), ("bits", 23, 0, 0), ["bits", 23, 0], ("bit", 23, 0), ("bits", 23, 2 ** 23),
            ("bits", 23, -1), ("bits", 0, 0), ("bits", True, 0), ("bits", 1, True), ("bits", 23, None), ("bits", "23", 0),
            ("bits", -23, 0), ("bits", 10 ** 30, 0), ("result", 23, 0), ("result",), ("leaf", 23), ("leaf", True, 23),
            ("leaf", 0, True), ("leaf", None, 23), ("leaf", 0, 0), ("result", 0), ("result", True), ("target", 0),
            ("target",), ("target", "8"), ("target", 8, 8), (23, 23), wrap(1, 50000), ("leaf", "0", 23), ("result", -1),
            ("leaf", 0, 10 ** 30), ("target", 10 ** 30), (None, 23), (wrap(1, 50), 23, 0), 23.0,
        ):
            self.form((*right, bad), ["field"])
            self.form((bad, *right, bits(23)), ["field"])
        for size in (22, 24, 1, 32):
            self.form((*right, bits(size)), ["field"])
        self.form((*right, bits(23)), [])
        self.form((*right, bits(22), bits(1, 1)), [])
        self.form((), ["field"])
        self.form((bits(16), bits(15)), ["field"])
        self.form((bits(16), bits(17)), ["field"])
        self.form((bits(32, 2 ** 32),), ["field"])
        self.form((bits(32, 2 ** 32 - 1),), ["needs"])
        # The numbers of bits go to one less than 2**size.
        self.form((*right, bits(23, 2 ** 23 - 1)), [])

    def test_needs(self):
        right = (result(3), leaf(0, 3), leaf(1, 3))
        for fields in (right[1:], right[:2], right[::2], (*right, result(3)), (*right, leaf(0, 3)), (*right, leaf(1, 3)),
                       (*right, target(3)), (*right, leaf(2, 3)), (*right, leaf(99, 3)), (), (target(3), *right[1:])):
            self.form((*fields, bits(32 - sum(field[-1] for field in fields))), ["needs"])
        for shape, fields in FORMS:
            for at, field in enumerate(fields):
                if field[0] != "bits":
                    self.form((*fields[:at], bits(field[-1]), *fields[at + 1:]), ["needs"], shape)
        for shape, fields in (
            ("move", (leaf(0, 3), leaf(1, 3), bits(26))), ("move", (result(3), leaf(0, 3), target(26))),
            ("spill", (result(3), leaf(0, 4), bits(25))), ("spill", (leaf(0, 4), bits(28))),
            ("fill", (leaf(0, 4), leaf(1, 3), bits(25))), ("go", (bits(32),)), ("go", (target(8), target(24))),
            ("go", (leaf(0, 8), target(24))), (RET, (leaf(0, 8), target(24))), (WR, (leaf(0, 8), result(24))),
            (BR, (leaf(0, 3), leaf(1, 1), bits(28))), (BR, (leaf(0, 3), leaf(1, 1), target(8), result(20))),
            (LI, (leaf(0, 3), bits(29))), (ST, (leaf(0, 3), leaf(1, 4), bits(25))),
        ):
            self.form(fields, ["needs"], shape)

    def test_size(self):
        # 5 registers, 9 cells, an imm with 256 values, one with 16, one with 5 and one with 1.
        self.form((result(2), leaf(0, 3), leaf(1, 3), bits(24)), ["size"])
        self.form((result(3), leaf(0, 2), leaf(1, 3), bits(24)), ["size"])
        self.form((result(3), leaf(0, 3), leaf(1, 2), bits(24)), ["size"])
        self.form((result(3), leaf(0, 3), leaf(1, 7), bits(19)), ["size"], ADDI)
        self.form((result(3), leaf(0, 3), leaf(1, 8), bits(18)), [], ADDI)
        self.form((result(3), leaf(0, 2), bits(27)), ["size"], LI)
        self.form((leaf(0, 3), leaf(1, 3), leaf(2, 3), bits(23)), ["size"], ST)
        self.form((leaf(0, 3), leaf(1, 4), leaf(2, 3), bits(22)), [], ST)
        self.form((leaf(0, 2), leaf(1, 1), target(29)), ["size"], BR)
        self.form((leaf(0, 3), leaf(1, 1), target(1), bits(27)), [], BR)
        self.form((result(2), leaf(0, 3), bits(27)), ["size"], "move")
        self.form((result(3), leaf(0, 2), bits(27)), ["size"], "move")
        self.form((leaf(0, 3), leaf(1, 3), bits(26)), ["size"], "spill")
        self.form((leaf(0, 4), leaf(1, 2), bits(26)), ["size"], "spill")
        self.form((leaf(0, 4), leaf(1, 3), bits(25)), [], "spill")
        self.form((target(1), bits(31)), [], "go")
        self.faults((("fill", (result(3), leaf(0, 3), bits(26))),), [(0, "size")])
        self.faults((("fill", (result(2), leaf(0, 4), bits(26))),), [(0, "size")])

    def test_sizes_at_their_limits(self):
        for number in range(2, 17):
            machine = with_rules(MACHINE, registers=number)
            for size in (1, 2, 3, 4, 5):
                faults = ["size"] if number > 2 ** size else []
                self.form((result(size), leaf(0, 5), bits(27 - size)), faults, "move", machine)
                self.form((result(5), leaf(0, size), bits(27 - size)), faults, "move", machine)
        for number in (0, 1, 2, 3, 4, 5, 8, 9, 63, 64):
            machine = with_rules(MACHINE, registers=8, frame=number)
            for size in (1, 2, 3, 6):
                faults = [(0, "size")] if number > 2 ** size else []
                self.faults((("spill", (leaf(0, size), leaf(1, 5), bits(27 - size))),), faults, machine)
                self.faults((("fill", (leaf(0, size), result(5), bits(27 - size))),), faults, machine)
        for least, most in ((0, 0), (0, 1), (-1, 1), (-32768, 65536), (65535, 65536), (-8, 7), (-8, 8), (100, 131)):
            machine = with_rules(MACHINE, rules=(("li", "reg", ("imm", least, most), 1, 1, 0, ()),))
            for size in (1, 2, 4, 5, 16, 17):
                faults = [(0, "size")] if most - least >= 2 ** size else []
                self.faults((((0, ()), (result(3), leaf(0, size), bits(29 - size))),), faults, machine)

    def test_several(self):
        self.form((leaf(0, 2), leaf(1, 3), bits(27)), ["needs", "size"])
        self.form((leaf(0, 2), leaf(1, 2), bits(28)), ["needs", "size"])
        self.form((result(2), result(2), leaf(0, 2), leaf(0, 2), bits(24)), ["needs", "size"])
        # What the shape has not has no values that could be too great, and a wrong field ends the look.
        self.form((result(3), leaf(0, 3), leaf(1, 3), leaf(2, 1), bits(22)), ["needs"])
        self.form((result(2), leaf(0, 2), bits(27)), ["field"])
        self.form((result(2), leaf(7, 2), ("x", 28)), ["field"])
        self.faults((FORMS[0], None, (ADDI, ()), ("move", (bits(32),)), ("go", (target(32),)), FORMS[0],
                     ("spill", (leaf(0, 3), leaf(2, 29)))),
                    [(1, "shape"), (2, "field"), (3, "needs"), (5, "shape"), (6, "needs"), (6, "size")])

    def test_tables_for_random_code(self):
        for seed in range(40):
            dice = Dice(seed)
            machine = full_machine(dice, 8, dice.number(2, 16), dice.number(1, 64))
            rows = tuple(any_instruction(dice, machine, range(machine[1]), range(machine[2])) for _ in range(40))
            table = any_table(dice, machine, ((), ((0, rows, any_end(dice, machine, range(2), ())),)))
            self.assertEqual(table_faults(machine, table), [])
            self.assertEqual(overlaps(machine, table), [])


class Overlaps(unittest.TestCase):
    def test_none(self):
        self.assertEqual(overlaps(MACHINE, FORMS), [])
        self.assertEqual(overlaps(MACHINE, ()), [])
        for form in FORMS:
            self.assertEqual(overlaps(MACHINE, (form,)), [])

    def test_fixed_bits(self):
        go = ("go", (bits(1, 1), target(31)))
        for fields, wanted in (
            ((bits(1), result(3), leaf(0, 28)), []),
            ((bits(1, 1), result(3), leaf(0, 28)), [(0, 1)]),
            ((result(3), leaf(0, 29)), [(0, 1)]),
            ((result(3), leaf(0, 28), bits(1)), [(0, 1)]),
            ((bits(2, 2), result(3), leaf(0, 27)), [(0, 1)]),
            ((bits(2, 1), result(3), leaf(0, 27)), []),
            ((bits(2, 3), result(3), leaf(0, 27)), [(0, 1)]),
        ):
            self.assertEqual(overlaps(MACHINE, (go, ("move", fields))), wanted)
            self.assertEqual(overlaps(MACHINE, (("move", fields), go)), wanted)

    def test_bits_at_different_places(self):
        first = ("move", (bits(8, 170), result(3), bits(5, 9), leaf(0, 16)))
        self.assertEqual(overlaps(MACHINE, (first, ("go", (target(8), bits(8, 9), target(16)))))[:1], [(0, 1)])
        for at in range(32):
            for bit in (0, 1):
                fields = [("target", at)] * (at > 0) + [bits(1, bit)] + [("target", 31 - at)] * (at < 31)
                fixed = 170 << 24 | 9 << 16
                clear = at < 8 or 11 <= at < 16
                wanted = [] if clear and (fixed >> (31 - at) & 1) != bit else [(0, 1)]
                self.assertEqual(overlaps(MACHINE, (first, ("go", tuple(fields)))), wanted)

    def test_one_bit_that_differs_in_the_middle(self):
        rows = tuple(("go", (bits(16, 77), target(8), bits(8, number))) for number in (5, 4, 5, 13))
        self.assertEqual(overlaps(MACHINE, rows), [(0, 2)])

    def test_many_pairs(self):
        free = ("move", (result(16), leaf(0, 16)))
        self.assertEqual(overlaps(MACHINE, (free, *FORMS[:3], free)), [(0, 1), (0, 2), (0, 3), (0, 4), (1, 4), (2, 4), (3, 4)])


class Words(unittest.TestCase):
    def both(self, item, distance, word, table=FORMS):
        """See that an item has a word, and the word the item, in which labels are 0."""
        self.assertEqual(encode(MACHINE, table, item, distance), word)
        plain = (*item[:3], 0, 0) if item[0] == "branch" else ("go", 0) if item[0] == "go" else item
        self.assertEqual(decode(MACHINE, table, word), (plain, distance if item[0] in ("go", "branch") else 0))

    def test_each_shape(self):
        self.both(("tile", ADD, 4, (1, 3)), 0, 1 << 28 | 4 << 25 | 1 << 22 | 3 << 19)
        self.both(("tile", ADDI, 2, (4, -128)), 0, 2 << 28 | 0 << 20 | 4 << 17 | 2)
        self.both(("tile", ADDI, 0, (0, 127)), 0, 2 << 28 | 255 << 20)
        self.both(("tile", ADDI, 0, (0, -1)), 0, 2 << 28 | 127 << 20)
        self.both(("tile", LI, 1, (4,)), 0, 3 << 28 | 4 << 25 | 1)
        self.both(("tile", ST, -1, (1, -2, 3)), 0, 4 << 28 | 3 << 25 | 0 << 21 | 1 << 18)
        self.both(("tile", ST, -1, (1, 13, 3)), 0, 4 << 28 | 3 << 25 | 15 << 21 | 1 << 18)
        self.both(("tile", WR, -1, (4,)), 0, 5 << 28 | 4)
        self.both(("return", RET, (0,)), 0, 7 << 28)
        self.both(("return", RET, (3,)), 0, 7 << 28 | 3)
        self.both(("move", 3, 4), 0, 8 << 28 | 3 << 25 | 4 << 22)
        self.both(("spill", 8, 2), 0, 9 << 28 | 2 << 25 | 8 << 21)
        self.both(("fill", 2, 8), 0, 10 << 28 | 8 << 24 | 2 << 21)
        self.both(("go", 77), 3, 11 << 28 | 3 << 20 | 5)
        self.both(("go", 0), -1, 11 << 28 | 255 << 20 | 5)
        self.both(("branch", BR, (2, 5), 8, 9), 1, 6 << 28 | 2 << 25 | 1)
        self.both(("branch", BR, (2, 5), 9999, 0), -2, 6 << 28 | 2 << 25 | (1 << 24) - 2)

    def test_distances(self):
        go, branch = ("go", 5), ("branch", BR, (0, 5), 1, 2)
        for size in (1, 2, 8, 16, 27, 28):
            table = (("go", (target(size), *([bits(28 - size)] if size < 28 else []), bits(4, 2))),
                     (BR, (bits(1), leaf(0, 3), leaf(1, 1), bits(25 - min(size, 24)), target(min(size, 24)), bits(2, 3))))
            self.assertEqual(table_faults(MACHINE, table), [])
            half = 2 ** (size - 1)
            for distance in {-half, -half + 1, -1, 0, half - 1}:
                if -half <= distance < half:
                    word = encode(MACHINE, table, go, distance)
                    self.assertEqual(word >> (32 - size), distance % 2 ** size)
                    self.assertEqual(decode(MACHINE, table, word), (("go", 0), distance))
            for distance in (-half - 1, half, 10 ** 9, -10 ** 9):
                self.assertIsNone(encode(MACHINE, table, go, distance))
            half = 2 ** (min(size, 24) - 1)
            for distance in (-half, half - 1):
                word = encode(MACHINE, table, branch, distance)
                self.assertEqual(decode(MACHINE, table, word), (("branch", BR, (0, 5), 0, 0), distance))
            for distance in (-half - 1, half):
                self.assertIsNone(encode(MACHINE, table, branch, distance))

    def test_the_distance_is_not_looked_at(self):
        for item in (("tile", ADD, 4, (1, 3)), ("move", 3, 4), ("spill", 8, 2), ("fill", 2, 8), ("return", RET, (0,)),
                     ("tile", WR, -1, (4,))):
            word = encode(MACHINE, FORMS, item, 0)
            self.assertEqual(encode(MACHINE, FORMS, item, 10 ** 9), word)
            self.assertEqual(decode(MACHINE, FORMS, word), (item, 0))

    def test_no_form(self):
        self.assertIsNone(encode(MACHINE, (), ("move", 0, 1), 0))
        self.assertIsNone(encode(MACHINE, FORMS, ("tile", tile("one"), 0, (1,)), 0))
        for at, (shape, _) in enumerate(FORMS):
            table = FORMS[:at] + FORMS[at + 1:]
            for item in (("tile", ADD, 4, (1, 3)), ("move", 3, 4), ("spill", 8, 2), ("fill", 2, 8), ("go", 1),
                         ("return", RET, (0,)), ("branch", BR, (0, 5), 1, 2), ("tile", ST, -1, (0, 0, 0))):
                self.assertIs(encode(MACHINE, table, item, 0) is None, any_shape_of(item) == shape)

    def test_words_that_are_none(self):
        for word in (0, 15 << 28, 12 << 28, 2 ** 32 - 1):
            self.assertIsNone(decode(MACHINE, FORMS, word))
        self.assertIsNone(decode(MACHINE, (), 0))
        # Fixed bits that differ somewhere in the word.
        good = encode(MACHINE, FORMS, ("tile", ADD, 4, (1, 3)), 0)
        for at in range(19):
            self.assertIsNone(decode(MACHINE, FORMS, good | 1 << at))
        self.assertIsNone(decode(MACHINE, FORMS, 11 << 28 | 4))

    def test_numbers_that_the_shape_does_not_allow(self):
        for word in (
            1 << 28 | 5 << 25, 1 << 28 | 7 << 22, 1 << 28 | 5 << 19, 2 << 28 | 5, 2 << 28 | 6 << 17, 3 << 28 | 5 << 25,
            3 << 28 | 7, 4 << 28 | 5 << 25, 4 << 28 | 5 << 18, 5 << 28 | 5, 6 << 28 | 5 << 25, 6 << 28 | 1 << 24, 7 << 28 | 5,
            7 << 28 | 1 << 27, 8 << 28 | 5 << 25, 8 << 28 | 5 << 22, 9 << 28 | 5 << 25, 9 << 28 | 9 << 21, 10 << 28 | 9 << 24,
            10 << 28 | 5 << 21,
        ):
            self.assertIsNone(decode(MACHINE, FORMS, word))
        for word in (1 << 28 | 4 << 25, 3 << 28 | 4 << 25, 9 << 28 | 8 << 21, 10 << 28 | 8 << 24, 7 << 28 | 4):
            self.assertIsNotNone(decode(MACHINE, FORMS, word))
        without = with_rules(MACHINE, frame=0)
        self.assertIsNone(decode(without, FORMS, 9 << 28))
        self.assertIsNone(decode(without, FORMS, 10 << 28))

    def test_there_and_back(self):
        words = {"taken": 0, "none": 0}
        for seed in range(60):
            dice = Dice(seed)
            machine = full_machine(dice, 8, dice.number(2, 16), dice.number(1, 64), ties=False)
            names = range(machine[1])
            rows = [any_instruction(dice, machine, names, range(machine[2])) for _ in range(30)]
            ends = [any_end(dice, machine, names, (0, 0)) for _ in range(6)]
            table = any_table(dice, machine, ((), ((0, tuple(rows), ends[0]), *[(1, (), end) for end in ends])))
            for item in rows + ends:
                distance = dice.number(-1024, 1023)
                has = "target" in things(machine, any_shape_of(item))
                word = encode(machine, table, item, distance)
                self.assertTrue(0 <= word < 2 ** 32)
                plain = ("go", 0) if item[0] == "go" else item
                self.assertEqual(decode(machine, table, word), (plain, distance if has else 0))
                for other in (word ^ 1 << dice.number(0, 31), dice.number(0, 2 ** 32 - 1)):
                    found = decode(machine, table, other)
                    words["none" if found is None else "taken"] += 1
                    if found is not None:
                        self.assertEqual(encode(machine, table, *found), other)
        self.assertGreater(min(words.values()), 500)

    def test_the_samples_of_tables(self):
        self.assertEqual([bits_for(many) for many in (0, 1, 2, 3, 4, 5, 16, 17)], [1, 1, 1, 2, 2, 3, 4, 5])
        code = ((), ((0, (("move", 0, 1), ("move", 1, 0)), ("return", RET, (0,))),))
        self.assertEqual(shapes_of(code), ["move", RET, "go"])


if __name__ == "__main__":
    unittest.main()
