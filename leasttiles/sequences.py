"""Sequences of tiles: their values, their costs, and those of least cost."""

from leasttiles.hunt import Hunt
from leasttiles.machines import operands_value, tile_cost, tile_nodes


def nodes_of(machine, sequence):
    """For each item of a sequence the nodes of its tile and its operands."""
    return [(tile_nodes(machine, tile), operands) for tile, operands in sequence]


def rows_value(width, rows, words):
    """The value of a sequence, as rows of nodes and operands, for the words of the inputs."""
    values = list(words)
    for nodes, operands in rows:
        values.append(operands_value(width, nodes, operands, values, ()))
    return values[-1] if rows else values[0]


def sequence_value(machine, sequence, words):
    """The value of a sequence for the words of the inputs."""
    return rows_value(machine[0], nodes_of(machine, sequence), words)


def sequence_cost(machine, sequence):
    """What all tiles of a sequence cost."""
    return sum([tile_cost(machine, tile) for tile, _ in sequence])


def least_sequence(machine, inputs, e, numbers, most):
    """The cost and the sequence of least cost, at most most, that has an expression's value, or None."""
    return Hunt(machine, inputs, numbers, most).least_for(e)
