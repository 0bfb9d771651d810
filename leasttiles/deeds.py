"""What blocks of functions and of code do, as terms."""

from leasttiles.codes import tile_of
from leasttiles.depend import gives
from leasttiles.functions import successors
from leasttiles.machines import folded, tile_nodes, with_leaves
from leasttiles.rules import TOPS
from leasttiles.terms import Terms


class Deeds:
    """What a block has done so far: its stores, its writes, its end, and what stands in variables or places.

    Each store has two terms in the row of stores, its address and its word.
    """

    def __init__(self, terms, values, unknown):
        self.terms = terms
        self.values_now = dict(values)
        self.unknown = unknown
        self.stores = []
        self.writes = []
        self.end = ()

    def value(self, name):
        """The term of a variable or place; one without a value is unknown, or 0 at the entry."""
        if name not in self.values_now:
            self.values_now[name] = self.terms.leaf(name) if self.unknown else self.terms.number(0)
        return self.values_now[name]

    def apply(self, op, parts):
        """The term of an op, where load is one, too."""
        if op == "load":
            return self.terms.load(parts[0], len(self.stores) // 2)
        return self.terms.apply(op, tuple(parts))


class FunctionDeeds(Deeds):
    """What a block of a function does; its variables are named ("var", v)."""

    def term_of(self, e):
        """The term of an expression."""
        if e[0] == "int":
            return self.terms.number(e[1])
        if e[0] == "var":
            return self.value(e)
        return self.apply(e[0], [self.term_of(part) for part in e[1:]])

    def do_block(self, block):
        """Do the statements of a block and its end."""
        for item in block[1]:
            if item[0] == "set":
                self.values_now[("var", item[1])] = self.term_of(item[2])
            elif item[0] == "write":
                self.writes.append(self.term_of(item[1]))
            else:
                self.stores.extend([self.term_of(item[1]), self.term_of(item[2])])
        end = block[2]
        self.end = end if end[0] == "go" else (end[0], self.term_of(end[1]), *end[2:])


class CodeDeeds(Deeds):
    """What a block of code does; its places are named ("reg", r) and ("cell", c)."""

    def do_op(self, op, parts):
        """The term of an op of a pattern, or the list of terms of one that stands at the top."""
        return parts if op in TOPS else self.apply(op, parts)

    def tile_terms(self, nodes, operands):
        """The list of the terms of a tile with these nodes: two for a store, else one."""
        words = []
        for leaf, operand in with_leaves(nodes, operands):
            words.append(self.value(("reg", operand)) if leaf[0] == "reg" else self.terms.number(operand))
        found = folded(nodes, words, self.do_op)
        return found if nodes[-1][0] in TOPS else [found]

    def outcome(self, item, nodes):
        """The terms that an instruction gives, writes or stores, or that an end tests or returns."""
        pair = tile_of(item)
        if pair is not None:
            return self.tile_terms(nodes, pair[1])
        return [] if item[0] == "go" else [self.value(("cell" if item[0] == "fill" else "reg", item[2]))]

    def do_row(self, row, nodes):
        """Do an instruction; nodes are those of its tile."""
        found = self.outcome(row, nodes)
        places = gives(row)
        if places != ():
            self.values_now[places[0]] = found[0]
        elif nodes[-1][0] == "store":
            self.stores.extend(found)
        else:
            self.writes.extend(found)

    def do_block(self, rows):
        """Do rows, pairs of an instruction and the nodes of its tile, and the end, which is the last one."""
        for row, nodes in rows[:-1]:
            self.do_row(row, nodes)
        end, nodes = rows[-1]
        if end[0] == "go":
            self.end = end
        else:
            self.end = ("if" if end[0] == "branch" else "return", *self.outcome(end, nodes), *end[3:])


def rows_of(machine, block):
    """The instructions of a block of code and its end, each with the nodes of its tile."""
    found = []
    for item in [*block[1], block[2]]:
        pair = tile_of(item)
        found.append((item, tile_nodes(machine, pair[0]) if pair is not None else []))
    return found


class Duty:
    """What code must do in the place of a block of a function."""

    def __init__(self, function, params, certificate, block):
        self.claims = {item[0]: item[1] for item in certificate}
        self.targets = successors(block)
        self.terms = Terms(function[0])
        # The inputs have names of their own, and nothing else is unknown at the entry.
        self.unknown = block[0] in self.claims
        inputs = [self.terms.leaf(("given", v)) for v in range(function[1])]
        given = {("var", v): term for v, term in enumerate(inputs)}
        self.places = {("reg", r): term for r, term in zip(params, inputs)}
        if self.unknown:
            given = {}
            self.places = {place: self.terms.leaf(("var", v)) for v, place in self.claims[block[0]]}
        self.wanted = FunctionDeeds(self.terms, given, self.unknown)
        self.wanted.do_block(block)

    def are_same(self, mine, others):
        """Whether two rows of terms are equal, one by one."""
        return len(mine) == len(others) and all(self.terms.same(a, b) for a, b in zip(mine, others))

    def same_ends(self, mine, other):
        """Whether two ends are of one kind, with the same labels and equal terms."""
        if mine[0] == "go":
            return mine == other
        return mine[0] == other[0] and mine[2:] == other[2:] and self.terms.same(mine[1], other[1])

    def claims_behind(self):
        """The claims of the blocks to which the end leads."""
        return [claim for target in self.targets for claim in self.claims[target]]

    def keeps_claims(self, done):
        """Whether the variables stand where the blocks to which the end leads claim them."""
        rows = self.claims_behind()
        return all(self.terms.same(self.wanted.value(("var", v)), done.value(place)) for v, place in rows)

    def begin(self):
        """What code has done at the beginning of the block."""
        return CodeDeeds(self.terms, self.places, self.unknown)

    def reason(self, rows):
        """Why a block of code, as rows, is refused, or None."""
        done = self.begin()
        done.do_block(rows)
        if not self.are_same(self.wanted.stores, done.stores):
            return "store"
        if not self.are_same(self.wanted.writes, done.writes):
            return "write"
        if not self.same_ends(self.wanted.end, done.end):
            return "end"
        return None if self.keeps_claims(done) else "claim"
