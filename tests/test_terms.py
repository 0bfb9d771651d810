"""Terms: what counts as equal, and their words ([8.2])."""

import unittest

from leasttiles.terms import Terms
from leasttiles.words import PAIRS, SINGLES, compute
from samples import Dice

A, B, C = ("leaf", ("a",)), ("leaf", ("b", 1)), ("leaf", ("c", ("d", 2)))
NUMBERED = ("add", "mul", "and", "or", "xor", "equal")
SIGNS = {"add": (1, 1), "sub": (1, -1), "neg": (-1,)}


def n(number):
    return ("number", number)


def made(terms, t):
    """The term for a nested tuple."""
    if t[0] == "number":
        return terms.number(t[1])
    if t[0] == "leaf":
        return terms.leaf(t[1])
    if t[0] == "load":
        return terms.load(made(terms, t[1]), t[2])
    return terms.apply(t[0], tuple(made(terms, part) for part in t[1:]))


def word(width, t, look, loads):
    """The word of a nested tuple."""
    if t[0] == "number":
        return t[1]
    if t[0] == "leaf":
        return look[t[1]]
    if t[0] == "load":
        return loads[(word(width, t[1], look, loads) % 16, t[2])]
    parts = [word(width, part, look, loads) for part in t[1:]]
    return compute(t[0], width, parts[0], parts[-1])


def as_sum(t):
    return (t[1], dict(t[2])) if t[0] == "sum" else (t[1], {}) if t[0] == "number" else (0, {t: 1})


def normal_sum(width, op, parts):
    number, counts = 0, {}
    for part, sign in zip(parts, SIGNS[op]):
        more, pairs = as_sum(part)
        number = (number + sign * more) % 2 ** width
        for inner, many in pairs.items():
            counts[inner] = (counts.get(inner, 0) + sign * many) % 2 ** width
    rest = sorted([pair for pair in counts.items() if pair[1]], key=repr)
    if not rest:
        return n(number)
    return rest[0][0] if number == 0 and [many for _, many in rest] == [1] else ("sum", number, tuple(rest))


def normal(width, t):
    """The normal form of a nested tuple, by the words of the document."""
    if t[0] in ("number", "leaf"):
        return t
    if t[0] == "load":
        return ("load", normal(width, t[1]), t[2])
    op, parts = t[0], [normal(width, part) for part in t[1:]]
    if all(part[0] == "number" for part in parts):
        return n(compute(op, width, parts[0][1], parts[-1][1]))
    if op in SIGNS:
        return normal_sum(width, op, parts)
    if op == "not":
        return parts[0][1] if parts[0][0] == "not" else (op, parts[0])
    if op in NUMBERED:
        parts.sort(key=lambda part: (part[0] == "number", repr(part)))
    idle = {"or": 0, "xor": 0, "shl": 0, "shr": 0, "mul": 1, "and": 2 ** width - 1}
    if op in idle and parts[1] == n(idle[op]):
        return parts[0]
    return n(0) if op in ("mul", "and") and parts[1] == n(0) else (op, *parts)


def random_term(dice, width, deep):
    if deep == 0 or dice.number(0, 3) == 0:
        if dice.number(0, 1):
            return n(dice.pick([0, 1, 2 ** width - 1, dice.number(0, 2 ** width - 1)]))
        return dice.pick([A, B])
    op = dice.pick([*PAIRS, *SINGLES, "load", "add", "sub", "neg", "mul", "and"])
    if op == "load":
        return ("load", random_term(dice, width, deep - 1), dice.number(0, 1))
    return (op, *[random_term(dice, width, deep - 1) for _ in range(2 if op in PAIRS else 1)])


class Equal(unittest.TestCase):
    def same(self, one, other, width=8):
        terms = Terms(width)
        first, second = made(terms, one), made(terms, other)
        answer = terms.same(first, second)
        self.assertIs(answer, terms.same(second, first))
        return answer

    def equal(self, one, other, widths=(1, 8, 16)):
        for width in widths:
            self.assertIs(self.same(one, other, width), True, (one, other, width))

    def differ(self, one, other, widths=(8, 16)):
        for width in widths:
            self.assertIs(self.same(one, other, width), False, (one, other, width))

    def test_leaves_and_numbers(self):
        self.equal(A, A)
        self.equal(n(1), n(1))
        self.equal(C, ("leaf", ("c", ("d", 2))))
        self.differ(A, B, (1, 16))
        self.differ(n(0), n(1), (1, 16))
        self.differ(A, n(0), (1, 16))
        self.differ(("leaf", (1,)), n(1), (1, 16))
        self.differ(("leaf", ("not", 0)), ("not", A))
        self.differ(("leaf", ()), ("leaf", ("a",)))

    def test_ops_on_numbers(self):
        for op in PAIRS:
            for x, y in ((200, 100), (100, 200), (7, 7), (3, 2), (255, 9)):
                self.equal((op, n(x), n(y)), n(compute(op, 8, x, y)), (8,))
                self.differ((op, n(x), n(y)), n(compute(op, 8, x, y) ^ 1), (8,))
            for x, y in ((0, 0), (0, 1), (1, 0), (1, 1)):
                self.equal((op, n(x), n(y)), n(compute(op, 1, x, y)), (1,))
        for op in SINGLES:
            for x in (0, 1, 77, 255):
                self.equal((op, n(x)), n(compute(op, 8, x, 0)), (8,))

    def test_orders(self):
        for op in PAIRS:
            test = self.equal if op in NUMBERED else self.differ
            test((op, A, B), (op, B, A))
            test((op, A, n(3)), (op, n(3), A), (8, 16))
            test((op, ("not", A), ("load", B, 0)), (op, ("load", B, 0), ("not", A)))
            test((op, (op, A, B), C), (op, C, (op, A, B)))
            self.differ((op, A, B), (op, A, C))

    def test_idle_numbers(self):
        for op in ("add", "sub", "or", "xor", "shl", "shr"):
            self.equal((op, A, n(0)), A)
            self.differ((op, A, n(1)), A)
        for op, width, number in (("mul", 1, 1), ("mul", 8, 1), ("and", 1, 1), ("and", 8, 255), ("and", 16, 65535)):
            self.equal((op, A, n(number)), A, (width,))
            self.equal((op, n(number), ("not", B)), ("not", B), (width,))
            if width > 1:
                self.differ((op, A, n(number - 1)), A, (width,))
        for op in ("add", "or", "xor"):
            self.equal((op, n(0), A), A)
        for op in ("sub", "shl", "shr", "less", "equal"):
            self.differ((op, n(0), A), A)
        self.differ(("less", A, n(0)), A)
        self.differ(("equal", A, n(1)), A)
        self.differ(("or", A, n(1)), A)
        self.differ(("and", A, n(1)), A)

    def test_numbers_that_leave_nothing(self):
        for op in ("mul", "and"):
            self.equal((op, A, n(0)), n(0))
            self.equal((op, n(0), A), n(0))
        for op in ("or", "xor", "shl", "shr", "equal", "less"):
            self.differ((op, A, n(0)), n(0))

    def test_twice(self):
        self.equal(("neg", ("neg", A)), A)
        self.equal(("not", ("not", A)), A)
        self.equal(("not", ("not", ("not", ("add", A, B)))), ("not", ("add", B, A)))
        self.equal(("neg", ("neg", ("neg", A))), ("neg", A))
        self.differ(("not", A), A)
        self.differ(("neg", A), A)
        self.differ(("not", ("neg", A)), A)
        self.differ(("neg", ("not", ("not", ("not", A)))), A)

    def test_sub_is_add_of_neg(self):
        self.equal(("sub", A, B), ("add", A, ("neg", B)))
        self.equal(("sub", A, B), ("add", ("neg", B), A))
        self.equal(("sub", n(0), A), ("neg", A))
        self.equal(("sub", A, n(3)), ("add", n(253), A), (8,))
        self.equal(("sub", A, n(3)), ("add", n(65533), A), (16,))
        self.equal(("sub", A, A), n(0))
        self.differ(("sub", A, B), ("sub", B, A))
        self.differ(("sub", A, n(3)), ("add", n(3), A))

    def test_sums(self):
        whole = ("add", ("add", A, B), C)
        for other in (
            ("add", A, ("add", B, C)), ("add", C, ("add", B, A)), ("add", ("add", C, A), B),
            ("sub", ("add", A, C), ("neg", B)), ("sub", ("add", whole, A), A), ("sub", A, ("sub", ("neg", B), C)),
            ("add", ("add", A, n(3)), ("add", B, ("sub", C, n(3)))), ("sub", ("add", whole, whole), whole),
            ("neg", ("sub", ("sub", ("neg", A), B), C)),
        ):
            self.equal(whole, other, (8, 16))
        for other in (("add", A, B), ("add", whole, A), ("sub", ("add", A, B), C), ("add", whole, n(1)), ("neg", whole)):
            self.differ(whole, other)
        self.equal(("add", A, ("neg", A)), n(0))
        self.equal(("add", ("add", A, n(5)), ("sub", n(6), A)), n(11), (8, 16))
        self.equal(("add", A, ("add", A, ("add", A, A))), ("add", ("add", A, A), ("add", A, A)))
        self.equal(("sub", ("add", A, ("add", A, A)), A), ("add", A, A))
        self.differ(("add", A, A), A)
        self.differ(("add", A, A), ("add", A, ("add", A, A)))
        self.differ(("add", A, A), n(0))

    def test_sums_within_ops(self):
        for op in (*PAIRS, *SINGLES):
            rest = (C,) if op in PAIRS else ()
            self.equal((op, ("sub", ("add", A, B), n(0)), *rest), (op, ("add", B, A), *rest))
            self.differ((op, ("add", A, B), *rest), (op, ("add", A, A), *rest))
        self.equal(("load", ("add", A, B), 1), ("load", ("add", B, A), 1))
        self.equal(("mul", ("sub", A, A), B), n(0))
        self.equal(("mul", B, ("add", ("sub", A, A), n(1))), B)
        product = ("mul", A, B)
        self.equal(("sub", ("add", product, C), ("mul", B, A)), C)
        self.equal(("not", ("add", A, n(0))), ("not", A))

    def test_loads(self):
        self.equal(("load", A, 2), ("load", A, 2))
        self.equal(("load", ("load", n(1), 0), 1), ("load", ("load", n(1), 0), 1))
        self.equal(("load", ("sub", A, n(0)), 2), ("load", A, 2))
        self.differ(("load", A, 2), ("load", A, 1))
        self.differ(("load", A, 0), ("load", B, 0))
        self.differ(("load", A, 0), A)
        self.differ(("load", n(0), 0), n(0))
        self.differ(("load", ("load", n(1), 0), 1), ("load", ("load", n(1), 1), 1))

    def test_what_does_not_count_as_equal(self):
        for one, other in (
            (("and", A, A), A), (("or", A, A), A), (("xor", A, A), n(0)), (("equal", A, A), n(1)),
            (("less", A, A), n(0)), (("mul", A, n(2)), ("add", A, A)), (("shl", A, n(1)), ("add", A, A)),
            (("mul", A, ("add", B, C)), ("add", ("mul", A, B), ("mul", A, C))),
            (("and", ("and", A, B), C), ("and", A, ("and", B, C))), (("shr", n(0), A), n(0)),
            (("not", A), ("xor", A, n(255))), (("less", A, n(0)), n(0)), (("or", A, n(255)), n(255)),
            (("load", n(3), 0), ("load", n(19), 0)),
        ):
            self.differ(one, other, (8,))

    def test_objects_have_terms_of_their_own(self):
        one, other = Terms(8), Terms(1)
        self.assertTrue(one.same(made(one, ("add", A, n(1))), made(one, ("add", n(1), A))))
        self.assertFalse(one.same(made(one, n(1)), made(one, n(0))))
        self.assertEqual(one.value_of(one.apply("add", (one.number(200), one.number(100))), {}, {}), 44)
        self.assertEqual(other.value_of(other.apply("add", (other.number(1), other.number(1))), {}, {}), 0)


class Many(unittest.TestCase):
    def test_equal_as_the_words_say(self):
        counts = {True: 0, False: 0}
        for seed in range(400):
            dice = Dice(seed)
            width = dice.pick([1, 1, 2, 8, 16])
            terms = Terms(width)
            rows = [random_term(dice, width, dice.number(0, 3)) for _ in range(10)]
            mine = [made(terms, t) for t in rows]
            for at in range(10):
                for other in range(at):
                    wanted = normal(width, rows[at]) == normal(width, rows[other])
                    self.assertIs(terms.same(mine[at], mine[other]), wanted, (width, rows[at], rows[other]))
                    counts[wanted] += 1
        self.assertGreater(min(counts.values()), 700)

    def test_words(self):
        for seed in range(300):
            dice = Dice(seed)
            width = dice.pick([1, 2, 5, 16])
            terms = Terms(width)
            rows = [random_term(dice, width, dice.number(0, 5)) for _ in range(8)]
            mine = [made(terms, t) for t in rows]
            for _ in range(3):
                look = {name: dice.number(0, 2 ** width - 1) for _, name in (A, B)}
                loads = {(at, k): dice.number(0, 2 ** width - 1) for at in range(16) for k in range(2)}
                words = [terms.value_of(t, look, loads) for t in mine]
                self.assertEqual(words, [word(width, t, look, loads) for t in rows])
                for one, here in zip(mine, words):
                    self.assertEqual({found for other, found in zip(mine, words) if terms.same(one, other)}, {here})

    def test_words_of_loads(self):
        terms = Terms(8)
        t = terms.load(terms.apply("add", (terms.leaf(("a",)), terms.number(20))), 3)
        self.assertEqual(terms.value_of(t, {("a",): 250}, {(14, 3): 9}), 9)
        self.assertEqual(terms.value_of(t, {("a",): 0}, {(4, 3): 8, (4, 2): 7}), 8)
        terms = Terms(8)
        self.assertEqual(terms.value_of(terms.load(terms.number(250), 3000), {}, {(10, 3000): 6}), 6)

    def test_long_rows_of_terms(self):
        terms = Terms(16)
        t = terms.leaf(("a",))
        for number in range(3000):
            t = terms.apply("xor", (terms.apply("mul", (t, terms.number(3))), terms.number(number | 1)))
        look = {("a",): 5}
        wanted = 5
        for number in range(3000):
            wanted = (wanted * 3 & 65535) ^ (number | 1)
        self.assertEqual(terms.value_of(t, look, {}), wanted)

    def test_great_sums(self):
        # A sum that doubles with each step has as many parts as one.
        terms = Terms(16)
        t = terms.apply("add", (terms.leaf(("a",)), terms.leaf(("b", 1))))
        for _ in range(1000):
            t = terms.apply("sub", (t, terms.apply("neg", (terms.apply("add", (t, terms.number(1))),))))
        self.assertTrue(terms.same(t, terms.number(65535)))
        leaves = [terms.leaf((k,)) for k in range(600)]
        one, other = leaves[0], leaves[-1]
        for k in range(1, 600):
            one = terms.apply("add", (one, leaves[k]))
            other = terms.apply("add", (leaves[-1 - k], other))
        self.assertTrue(terms.same(one, other))


if __name__ == "__main__":
    unittest.main()
