"""Machines, functions and code for the tests of code, and a plain run of code by the words of the document."""

from leasttiles.codes import reads
from leasttiles.machines import leaves
from leasttiles.words import PAIRS, compute
from samples import MACHINE, REG

TOPS = ("write", "store", "branch", "return")


def tile_of_name(machine, name, *tiles):
    """The tile of the rule with this name."""
    return ([rule[0] for rule in machine[4]].index(name), tiles)


def tile(name, *tiles):
    """The tile of a rule of MACHINE."""
    return tile_of_name(MACHINE, name, *tiles)


LI, ADD, NEG = tile("li"), tile("add"), tile("neg")
SRCR, SRCI, ADRA, ADRR = tile("srcr"), tile("srci"), tile("adra"), tile("adrr")
WR, RET, BRL, MULQ, SHLI = tile("wr"), tile("ret"), tile("brl"), tile("mulq"), tile("shli")


# Instructions and ends for MACHINE.
def add(d, a, b):
    return ("tile", ADD, d, (a, b))


def li(d, word=7):
    return ("tile", LI, d, (word,))


def write(a):
    return ("tile", WR, -1, (a,))


def ret(a):
    return ("return", RET, (a,))


def branch(a, one, other):
    return ("branch", tile("br", SRCR), (a,), one, other)


def with_rules(machine, **names):
    """The machine with some of its registers, frame, costs or rules changed."""
    keys = ("width", "registers", "frame", "costs", "rules")
    return tuple(names.get(key, old) for key, old in zip(keys, machine))


def untied(machine):
    """The machine without ties."""
    return with_rules(machine, rules=tuple((*rule[:6], ()) for rule in machine[4]))


def own_leaves(pattern):
    """The leaves of a pattern."""
    if pattern[0] in ("reg", "imm", "nt"):
        return [pattern]
    return [leaf for part in pattern[1:] for leaf in own_leaves(part)]


def value(machine, tile_, words, memory):
    """The word of a tile; words are those of its leaves, as a list that is taken from the left."""
    tiles = list(tile_[1])

    def of(pattern):
        if pattern[0] == "nt":
            return value(machine, tiles.pop(0), words, memory)
        if pattern[0] in ("reg", "imm"):
            return words.pop(0) % 2 ** machine[0]
        parts = [of(part) for part in pattern[1:]]
        if pattern[0] == "load":
            return memory[parts[0] % 16]
        if pattern[0] in TOPS:
            return parts[0] if len(parts) == 1 else tuple(parts)
        return compute(pattern[0], machine[0], parts[0], parts[-1])

    return of(machine[4][tile_[0]][2])


class Plain:
    """A run of code or wide code, with what stands in names or registers and cells at each block's beginning."""

    def __init__(self, machine, code, inputs, fuel):
        self.machine = machine
        self.words = dict(zip(code[0], inputs))
        self.cells = {}
        self.memory = [0] * 16
        self.writes = []
        self.end = ("none",)
        self.states = []
        blocks = {block[0]: block for block in code[1]}
        label = code[1][0][0]
        while len(self.states) < fuel and self.end == ("none",):
            self.states.append((label, dict(self.words), dict(self.cells)))
            for row in blocks[label][1]:
                self.step(row)
            label = self.leave(blocks[label][2])

    def word(self, tile_, operands):
        words = [self.words.get(operand, 0) if leaf[0] == "reg" else operand
                 for leaf, operand in zip(leaves(self.machine, tile_), operands)]
        return value(self.machine, tile_, words, self.memory)

    def step(self, row):
        if row[0] == "tile":
            word = self.word(row[1], row[3])
            op = self.machine[4][row[1][0]][2][0]
            if op == "write":
                self.writes.append(word)
            elif op == "store":
                self.memory[word[0] % 16] = word[1]
            else:
                self.words[row[2]] = word
        elif row[0] == "move":
            self.words[row[1]] = self.words.get(row[2], 0)
        elif row[0] == "spill":
            self.cells[row[1]] = self.words.get(row[2], 0)
        else:
            self.words[row[1]] = self.cells.get(row[2], 0)

    def leave(self, end):
        if end[0] == "go":
            return end[1]
        word = self.word(end[1], end[2])
        if end[0] == "return":
            self.end = ("return", word)
            return None
        return end[3] if word else end[4]

    def outcome(self):
        return (self.writes, self.end, len(self.states))


def full_machine(dice, width, registers, frame, ties=True):
    """A machine that covers all functions, most often in several ways."""
    rules = [("li", "reg", ("imm", 0, 65535), dice.number(1, 4), 1, 0, ())]

    def tie_row(many, result):
        if not ties or dice.number(0, 1):
            return ()
        found = []
        if result and many and dice.number(0, 1):
            found.append(("same", dice.number(0, many - 1)))
        if result and dice.number(0, 2) == 0:
            found.append(("result", dice.number(0, registers - 1)))
        free = list(range(registers))
        for k in range(many):
            if free and dice.number(0, 2) == 0:
                found.append(("needs", k, dice.pick(free)))
                free.remove(found[-1][2])
        return tuple(found)

    def add(name, result, pattern, many):
        numbers = (dice.number(1, 4), dice.number(1, 5), dice.number(0, 3))
        rules.append((name, result, pattern, *numbers, tie_row(many, result == "reg")))

    for op in PAIRS:
        if dice.number(0, 1):
            add(op, "reg", (op, REG, ("nt", "src")), 1)
        add(op + "q", "reg", (op, REG, REG), 2)
    for op in ("not", "neg", "load"):
        add(op, "reg", (op, REG), 1)
    rules.append(("srcr", "src", REG, 1, 1, 0, ()))
    rules.append(("srci", "src", ("imm", -8, 7), 0, 1, 0, ()))
    rules.append(("adrs", "adr", ("add", REG, ("nt", "src")), dice.number(0, 4), 1, 0, ()))
    rules.append(("ldx", "reg", ("load", ("nt", "adr")), dice.number(1, 4), 2, 0, ()))
    rules.append(("stx", "", ("store", ("nt", "adr"), ("nt", "src")), 1, 1, 0, ()))
    add("st", "", ("store", REG, REG), 2)
    for name, op in (("wr", "write"), ("br", "branch"), ("ret", "return")):
        add(name, "", (op, REG), 1)
    add("brl", "", ("branch", ("less", REG, REG)), 2)
    return (width, registers, frame, (1, 2, 2), tuple(rules))


def looping_function(dice, width, variables, blocks, deep):
    """A function with many ways from block to block."""
    labels = dice.source.sample(range(1000), blocks)

    def e():
        return dice.expression(width, deep, variables)

    def statement():
        kind = dice.number(0, 5)
        if kind == 0:
            return ("write", e())
        if kind == 1:
            return ("store", e(), e())
        return ("set", dice.number(0, variables - 1), e() if kind > 2 else ("var", dice.number(0, variables - 1)))

    rows = []
    for label in labels:
        body = tuple(statement() for _ in range(dice.number(0, 6)))
        kind = dice.number(0, 4) if blocks > 1 else 0
        if kind == 0:
            end = ("return", e())
        elif kind == 1:
            end = ("go", dice.pick(labels[1:]))
        else:
            end = ("if", e(), dice.pick(labels[1:]), dice.pick(labels[1:]))
        rows.append((label, body, end))
    return (width, dice.number(0, min(6, variables)), tuple(rows))


def any_tile(dice, machine, k):
    """A tile of rule k."""
    tiles = []
    for leaf in own_leaves(machine[4][k][2]):
        if leaf[0] == "nt":
            fits = [j for j, rule in enumerate(machine[4]) if rule[1] == leaf[1]]
            tiles.append(any_tile(dice, machine, dice.pick(fits)))
    return (k, tuple(tiles))


def any_operands(dice, machine, tile_, names):
    """Operands of a tile over some names."""
    return tuple(dice.pick(names) if leaf[0] == "reg" else dice.number(max(leaf[1], -5), min(leaf[2], 5))
                 for leaf in leaves(machine, tile_))


def any_instruction(dice, machine, names, cells=()):
    """An instruction over some names, and over cells if there are any."""
    kind = dice.number(0, 9)
    if kind < 2:
        return ("move", dice.pick(names), dice.pick(names))
    if kind < 4 and cells:
        return dice.pick([("spill", dice.pick(cells), dice.pick(names)), ("fill", dice.pick(names), dice.pick(cells))])
    tops = ("write", "store") if kind < 6 else ()
    fits = [k for k, rule in enumerate(machine[4]) if (rule[2][0] in tops if tops else rule[1] == "reg")]
    made = any_tile(dice, machine, dice.pick(fits))
    return ("tile", made, -1 if tops else dice.pick(names), any_operands(dice, machine, made, names))


def any_end(dice, machine, names, targets):
    """An end over some names and labels."""
    kind = dice.number(0, 5) if targets else 0
    if kind == 1:
        return ("go", dice.pick(targets))
    fits = [k for k, rule in enumerate(machine[4]) if rule[2][0] == ("return" if kind == 0 else "branch")]
    made = any_tile(dice, machine, dice.pick(fits))
    operands = any_operands(dice, machine, made, names)
    if kind == 0:
        return ("return", made, operands)
    return ("branch", made, operands, dice.pick(targets), dice.pick(targets))


def any_code(dice, machine, names, cells=(), blocks=4, size=8, again=True):
    """Code over some names, with ends that lead anywhere, to the entry only if that may be."""
    labels = dice.source.sample(range(50), dice.number(1, blocks))
    rows = []
    for label in labels:
        body = tuple(any_instruction(dice, machine, names, cells) for _ in range(dice.number(0, size)))
        rows.append((label, body, any_end(dice, machine, names, labels if again else labels[1:])))
    params = dice.source.sample(list(names), dice.number(0, min(len(names), 4)))
    return (tuple(params), tuple(rows))


def names_of(machine, code):
    """All names of wide code."""
    found = set(code[0])
    for _, rows, end in code[1]:
        for item in [*rows, end]:
            found |= set(reads(machine, item))
            if item[0] == "move" or (item[0] == "tile" and item[2] >= 0):
                found.add(item[2] if item[0] == "tile" else item[1])
    return found


def words_for(dice, width, many):
    """Inputs, often small or great ones."""
    return tuple(dice.pick([0, 1, 2 ** width - 1, dice.number(0, 2 ** width - 1)]) for _ in range(many))
