"""Wide code, made from least covers, and the ties that its instructions keep."""

from leasttiles.codes import changes, reads, tile_of
from leasttiles.covers import least_cover, uncovered
from leasttiles.errors import Uncovered
from leasttiles.machines import fits_imm, leaf_places
from leasttiles.trees import item_tree, leaf_parts

FIRST_NAME = 100


class Writer:
    """Writes the instructions of covers, with new names in order."""

    def __init__(self, machine):
        self.machine = machine
        self.rows = []
        self.name = FIRST_NAME

    def leaf_parts_of(self, tree, cover):
        """The leaves of the rule at the top of a cover, each with the part of the tree that stands there."""
        return leaf_parts(self.machine[4][cover[0]][2], tree)

    def put_together(self, tree, cover, found):
        """The tile and the operands of a cover, from the tiles and operands at each of its holes."""
        tiles = []
        operands = []
        at = 0
        for leaf, part in self.leaf_parts_of(tree, cover):
            if leaf[0] == "imm":
                operands.append(fits_imm(self.machine[0], part[1], leaf[1], leaf[2]))
                continue
            tiles.extend(found[at][0])
            operands.extend(found[at][1])
            at += 1
        return ((cover[0], tuple(tiles)), tuple(operands))

    def give_name(self, tile, operands):
        """Write the instruction of a tile whose result is a new name, which is returned."""
        self.rows.append(("tile", tile, self.name, operands))
        self.name += 1
        return self.name - 1

    def write_cover(self, tree, cover):
        """The tile and the operands at the top of a cover; the instructions of all below it are written.

        Covers nest too deep for a function that calls itself for what is below.
        """
        found = []
        waiting = [(tree, cover, False)]
        while True:
            part, mine, ready = waiting.pop()
            if mine[0] == "var":
                found.append(((), (mine[1],)))
                continue
            if not ready:
                below = [inner for leaf, inner in self.leaf_parts_of(part, mine) if leaf[0] != "imm"]
                waiting.append((part, mine, True))
                waiting.extend([(inner, more, False) for inner, more in zip(below[::-1], mine[1][::-1])])
                continue
            behind = len(found) - len(mine[1])
            tile, operands = self.put_together(part, mine, found[behind:])
            if not waiting:
                return (tile, operands)
            named = self.machine[4][mine[0]][1] == "reg"
            found[behind:] = [((), (self.give_name(tile, operands),)) if named else ((tile,), operands)]

    def write_item(self, item):
        """The tile and the operands of a statement or end, or None if its cover is a variable."""
        tree, result = item_tree(item)
        cover = least_cover(self.machine, tree, result)[1]
        return None if cover[0] == "var" else self.write_cover(tree, cover)

    def write_statement(self, item):
        """Write the instructions of a statement."""
        found = self.write_item(item)
        if found is None:
            self.rows.append(("move", item[1], item[2][1]))
        else:
            self.rows.append(("tile", found[0], item[1] if item[0] == "set" else -1, found[1]))

    def write_end(self, end):
        """Write the instructions of an end, which is returned as one of wide code."""
        if end[0] == "go":
            return end
        tile, operands = self.write_item(end)
        if end[0] == "return":
            return ("return", tile, operands)
        return ("branch", tile, operands, end[2], end[3])

    def write_block(self, block):
        """The block of wide code for a block of a function."""
        label, body, end = block
        self.rows = []
        for item in body:
            self.write_statement(item)
        last = self.write_end(end)
        return (label, tuple(self.rows), last)


def emit(machine, function):
    """The wide code of a function, made from least covers."""
    lost = uncovered(machine, function)
    if lost:
        raise Uncovered(lost[0])
    writer = Writer(machine)
    blocks = [writer.write_block(block) for block in function[2]]
    return (tuple(range(function[1])), tuple(blocks))


class Binder:
    """Puts moves around instructions whose rules have ties, so that only names are tied."""

    def __init__(self, machine, name):
        self.machine = machine
        self.name = name
        self.rows = []
        self.fixed = {}

    def new_name(self):
        """The next name above all names."""
        self.name += 1
        return self.name - 1

    def bind_leaves(self, tile, operands, ties):
        """Move the operands that ties name to new names; the operands behind, and the new name of each such leaf."""
        places = leaf_places(self.machine, tile)
        behind = list(operands)
        names = {}
        for k in sorted(set([tie[1] for tie in ties if tie[0] != "result"])):
            names[k] = self.new_name()
            self.rows.append(("move", names[k], behind[places[k]]))
            behind[places[k]] = names[k]
        for tie in ties:
            if tie[0] == "needs":
                self.fixed[(names[tie[1]], tie[2])] = True
        return tuple(behind), names

    def bind_result(self, d, ties, names):
        """The name that the ties let stand for the result d."""
        same = [names[tie[1]] for tie in ties if tie[0] == "same"]
        wanted = [tie[1] for tie in ties if tie[0] == "result"]
        if not wanted:
            return same[0] if same else d
        found = same[0] if same else self.new_name()
        self.fixed[(found, wanted[0])] = True
        return found

    def bind(self, item):
        """Write an instruction with its ties; an end is returned instead."""
        found = tile_of(item)
        ties = self.machine[4][found[0][0]][6] if found is not None else ()
        if ties == ():
            return item
        operands, names = self.bind_leaves(found[0], found[1], ties)
        if item[0] != "tile":
            return (item[0], item[1], operands, *item[3:])
        d = self.bind_result(item[2], ties, names)
        return ("tile", item[1], d, operands)

    def bind_block(self, block):
        """The block with its ties bound."""
        label, rows, end = block
        self.rows = []
        for row in rows:
            bound = self.bind(row)
            self.rows.append(bound)
            if changes(bound) != changes(row):
                self.rows.append(("move", changes(row), changes(bound)))
        last = self.bind(end)
        return (label, tuple(self.rows), last)


def tied(machine, wide):
    """The wide code whose ties hold but for what registers the names get, and the names that want registers."""
    params, blocks = wide
    name = max([FIRST_NAME - 1, *params]) + 1
    for _, rows, end in blocks:
        for item in [*rows, end]:
            name = max([name - 1, changes(item), *reads(machine, item)]) + 1
    binder = Binder(machine, name)
    bound = [binder.bind_block(block) for block in blocks]
    return ((params, tuple(bound)), tuple(sorted(binder.fixed)))
