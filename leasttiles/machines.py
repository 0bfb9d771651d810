"""Machines: their faults, their tiles, and what the tiles mean."""

from leasttiles.functions import is_width
from leasttiles.plain import is_row, is_within
from leasttiles.rules import are_ties, is_chain, is_pattern, is_rule, pattern_leaves
from leasttiles.words import CELLS, compute, top

MOST_RULES = 60
MOST_TILES_DEEP = 90


def _has_form(value):
    if not is_row(value, 5):
        return False
    width, registers, frame, costs, rules = value
    if not is_width(width) or not is_within(registers, 2, 16) or not is_within(frame, 0, 64):
        return False
    if not is_row(costs, 3) or not all(is_within(cost, 0, 99) for cost in costs):
        return False
    return type(rules) is tuple and len(rules) <= MOST_RULES


def _pattern_codes(rule, registers):
    """The codes of the faults that a rule's pattern and ties have."""
    found = ["chain"] if is_chain(rule) else []
    if not is_pattern(rule[1], rule[2]):
        found.append("pattern")
    elif not are_ties(rule, registers):
        found.append("tie")
    return found


def machine_faults(value):
    """The faults of any plain value as a machine: pairs of a rule's number and a code, ascending."""
    if not _has_form(value):
        return [(-1, "form")]
    found = []
    names = {}
    for k, rule in enumerate(value[4]):
        if not is_rule(rule):
            found.append((k, "rule"))
            continue
        if rule[0] in names:
            found.append((k, "twice"))
        names[rule[0]] = True
        for code in _pattern_codes(rule, value[1]):
            found.append((k, code))
    return sorted(found)


def _tile_kinds(machine, result, value):
    """The results that the tiles within a tile must have, or None if the value is no tile at its top."""
    rules = machine[4]
    if not is_row(value, 2) or not is_within(value[0], 0, len(rules) - 1) or type(value[1]) is not tuple:
        return None
    rule = rules[value[0]]
    kinds = [leaf[1] for leaf in pattern_leaves(rule[2]) if leaf[0] == "nt"]
    return kinds if rule[1] == result and len(kinds) == len(value[1]) else None


def is_tile(machine, result, value):
    """Whether any plain value is a tile of a rule with this result."""
    waiting = [(result, value, 1)]
    while waiting:
        word, here, deep = waiting.pop()
        if deep > MOST_TILES_DEEP:
            return False
        kinds = _tile_kinds(machine, word, here)
        if kinds is None:
            return False
        for kind, part in zip(kinds, here[1]):
            waiting.append((kind, part, deep + 1))
    return True


def _planted(pattern, tiles):
    """A pattern with tiles in the place of its nt leaves, which are taken from a list."""
    if pattern[0] == "nt":
        return tiles.pop(0)
    if pattern[0] in ("reg", "imm"):
        return pattern
    return (pattern[0], *[_planted(part, tiles) for part in pattern[1:]])


def tile_nodes(machine, tile):
    """The ops and leaves of a tile's whole pattern, each behind its parts, with the number of its parts.

    A whole pattern nests too deep for a function that calls itself for its parts.
    """
    found = []
    waiting = [tile]
    while waiting:
        here = waiting.pop()
        if type(here[0]) is int:
            waiting.append(_planted(machine[4][here[0]][2], list(here[1])))
        elif here[0] in ("reg", "imm"):
            found.append((here, 0))
        else:
            found.append((here[0], len(here) - 1))
            waiting.extend(here[1:])
    # Each was found ahead of its parts, and these from the right.
    return found[::-1]


def leaves(machine, tile):
    """The leaves of a tile, those of its tiles included, from left to right."""
    return tuple([node for node, count in tile_nodes(machine, tile) if count == 0])


def whole_pattern(machine, tile):
    """The pattern of a tile with those of its tiles in the place of its nt leaves."""
    found = []
    for node, count in tile_nodes(machine, tile):
        if count == 0:
            found.append(node)
        else:
            behind = len(found) - count
            found[behind:] = [(node, *found[behind:])]
    return found[0]


def tile_cost(machine, tile):
    """The sum of the costs of the rules of a tile."""
    total = 0
    waiting = [tile]
    while waiting:
        k, tiles = waiting.pop()
        total += machine[4][k][3]
        waiting.extend(tiles)
    return total


def _is_operand(machine, leaf, value):
    if leaf[0] == "reg":
        return is_within(value, 0, machine[1] - 1)
    return is_within(value, leaf[1], leaf[2])


def are_operands(machine, tile, value):
    """Whether any plain value is a tuple of operands for a tile."""
    mine = leaves(machine, tile)
    if not is_row(value, len(mine)):
        return False
    return all(_is_operand(machine, leaf, part) for leaf, part in zip(mine, value))


def fits_imm(w, word, least, most):
    """The first of a word and the word less 2**w that lies from least to most, or None."""
    for number in (word, word - (1 << w)):
        if least <= number <= most:
            return number
    return None


def leaf_places(machine, tile):
    """For each leaf of the tile's own rule the place of its first operand."""
    k, tiles = tile
    rest = list(tiles)
    found = []
    at = 0
    for leaf in pattern_leaves(machine[4][k][2]):
        found.append(at)
        at += len(leaves(machine, rest.pop(0))) if leaf[0] == "nt" else 1
    return found


def ties_kept(machine, tile, result, operands):
    """Whether all ties of the tile's rule are kept; result is a register, or -1 for none."""
    places = leaf_places(machine, tile)
    for tie in machine[4][tile[0]][6]:
        if tie[0] == "result":
            kept = result == tie[1]
        elif tie[0] == "same":
            kept = result == operands[places[tie[1]]]
        else:
            kept = operands[places[tie[1]]] == tie[2]
        if not kept:
            return False
    return True


def _apply(width, op, parts, memory):
    """What an op of a pattern gives for the words of its parts."""
    if op in ("write", "branch", "return"):
        return parts[0]
    if op == "store":
        return (parts[0], parts[1])
    if op == "load":
        return memory[parts[0] % CELLS]
    return compute(op, width, parts[0], parts[-1])


def folded(nodes, words, action):
    """What nodes give for the words of their leaves; action tells what an op gives for its parts."""
    found = []
    at = 0
    for node, count in nodes:
        if count > 0:
            behind = len(found) - count
            found[behind:] = [action(node, found[behind:])]
        else:
            found.append(words[at])
            at += 1
    return found[0]


def with_leaves(nodes, operands):
    """The leaves among nodes, each with its operand."""
    return list(zip([node for node, count in nodes if count == 0], operands))


def operands_value(width, nodes, operands, registers, memory):
    """What the nodes of a tile's whole pattern give for its operands."""
    words = []
    for leaf, operand in with_leaves(nodes, operands):
        words.append(registers[operand] if leaf[0] == "reg" else operand & top(width))
    return folded(nodes, words, lambda op, parts: _apply(width, op, parts, memory))


def tile_value(machine, tile, operands, registers, memory):
    """The word of a tile's pattern, or the pair of address and word for a store."""
    return operands_value(machine[0], tile_nodes(machine, tile), operands, registers, memory)
