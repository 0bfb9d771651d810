"""Runs of code."""

from leasttiles.codes import reads, tile_of, top_op
from leasttiles.machines import operands_value, tile_nodes
from leasttiles.plays import Steps, finish
from leasttiles.words import CELLS


class CodePlay(Steps):
    """A run of code as it stands between two blocks."""

    def __init__(self, machine, code, inputs):
        Steps.__init__(self, code[1])
        self.machine = machine
        # Registers and frame cells that are not there have 0; so wide code runs too, with names for registers.
        self.registers = {r: word for r, word in zip(code[0], inputs)}
        self.frame = {}
        self.nodes = {}

    def block_nodes(self):
        """For each instruction of the block and its end the nodes of its tile, which are worked out only once.

        The registers that the block reads get their words then, too, if they have none.
        """
        if self.label not in self.nodes:
            _, rows, end = self.blocks[self.label]
            for r in [r for item in [*rows, end] for r in reads(self.machine, item)]:
                self.registers.setdefault(r, 0)
            tiles = [tile_of(item) for item in [*rows, end]]
            self.nodes[self.label] = [tile_nodes(self.machine, found[0]) if found else [] for found in tiles]
        return self.nodes[self.label]

    def enter(self):
        """Do the block to which the run has come."""
        self.steps += 1
        _, rows, end = self.blocks[self.label]
        nodes = self.block_nodes()
        for at, row in enumerate(rows):
            if row[0] == "tile":
                self.do_tile(row, nodes[at])
            elif row[0] == "spill":
                self.frame[row[1]] = self.registers[row[2]]
            elif row[0] == "fill":
                self.registers[row[1]] = self.frame.get(row[2], 0)
            else:
                self.registers[row[1]] = self.registers[row[2]]
        self.do_end(end, nodes[-1])

    def do_tile(self, row, nodes):
        """Do an instruction with a tile."""
        _, tile, d, operands = row
        op = top_op(self.machine, tile)
        value = self.value_of(nodes, operands)
        if op == "write":
            self.writes.append(value)
        elif op == "store":
            self.memory[value[0] % CELLS] = value[1]
        else:
            self.registers[d] = value

    def do_end(self, end, nodes):
        """Leave the block."""
        if end[0] == "go":
            self.label = end[1]
        elif end[0] == "return":
            self.end = ("return", self.value_of(nodes, end[2]))
        else:
            self.label = end[3] if self.value_of(nodes, end[2]) != 0 else end[4]

    def value_of(self, nodes, operands):
        """What a tile with these nodes gives for operands."""
        return operands_value(self.machine[0], nodes, operands, self.registers, self.memory)


def run_code(machine, code, inputs, *, fuel):
    """The words written, the end, and the number of blocks entered."""
    return finish(CodePlay(machine, code, inputs), fuel)
