"""Which instructions of a row depend on earlier ones."""

from leasttiles.codes import changes, reads, tile_of, top_op
from leasttiles.machines import tile_nodes


def latency_of(machine, instruction):
    """The latency of an instruction."""
    found = tile_of(instruction)
    return 1 if found is None else machine[4][found[0][0]][4]


def unit_of(machine, instruction):
    """The unit of an instruction."""
    found = tile_of(instruction)
    return 0 if found is None else machine[4][found[0][0]][5]


def needs(machine, instruction):
    """The registers and frame cells that an instruction reads: pairs of "reg" or "cell" and a number, ascending."""
    if instruction[0] == "fill":
        return (("cell", instruction[2]),)
    return tuple([("reg", r) for r in reads(machine, instruction)])


def gives(instruction):
    """The registers and frame cells that an instruction gives, as pairs, ascending."""
    if instruction[0] == "spill":
        return (("cell", instruction[1]),)
    r = changes(instruction)
    return () if r == -1 else (("reg", r),)


def _effects(machine, instruction):
    """Which of "write", "store" and "load" an instruction does."""
    found = tile_of(instruction)
    if found is None:
        return []
    op = top_op(machine, found[0])
    effects = [op] if op in ("write", "store") else []
    if any(node == "load" for node, _ in tile_nodes(machine, found[0])):
        effects.append("load")
    return effects


# What an earlier instruction has done that one with such an effect has to wait for.
_AHEAD = {"write": ("write",), "store": ("store", "load"), "load": ("store",)}


def _add_to_each(table, things, j):
    """Note in a dict of lists that j has to do with some things."""
    for thing in things:
        table.setdefault(thing, []).append(j)


class Row:
    """What the instructions of a row have done so far, and how far apart those that depend on them must be."""

    def __init__(self, machine):
        self.machine = machine
        self.latencies = []
        self.givers = {}
        self.readers = {}
        self.doers = {}
        self.distances = {}

    def note(self, j, earlier, distance):
        """Note that j depends on earlier instructions with at least a distance."""
        for i in earlier:
            self.distances[(i, j)] = max(distance, self.distances.get((i, j), 0))

    def add_next(self, instruction):
        """Note what the next instruction depends on, and what it does."""
        j = len(self.latencies)
        read = needs(self.machine, instruction)
        given = gives(instruction)
        effects = _effects(self.machine, instruction)
        for thing in read:
            for i in self.givers.get(thing, []):
                self.note(j, [i], self.latencies[i])
        for thing in given:
            self.note(j, self.readers.get(thing, []), 1)
            self.note(j, self.givers.get(thing, []), 1)
        for effect in effects:
            for other in _AHEAD[effect]:
                self.note(j, self.doers.get(other, []), 1)
        _add_to_each(self.readers, read, j)
        _add_to_each(self.givers, given, j)
        _add_to_each(self.doers, effects, j)
        self.latencies.append(latency_of(self.machine, instruction))


def depends(machine, rows):
    """The triples of an instruction's place, that of a later one that depends on it, and their distance, ascending."""
    found = Row(machine)
    for instruction in rows:
        found.add_next(instruction)
    return sorted([(i, j, found.distances[(i, j)]) for i, j in found.distances])
