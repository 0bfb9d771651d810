"""Code: its form and its faults, what it costs, and which registers its instructions read and change."""

from leasttiles.machines import are_operands, is_tile, leaves, ties_kept, tile_cost
from leasttiles.plain import is_row, is_within

LAST_LABEL = 9999

# The instructions that each machine has, in the order of its costs.
OWN_WORDS = ("move", "spill", "fill")


def tile_of(item):
    """The tile and the operands of an instruction or end, or None if it has none."""
    if item[0] == "tile":
        return (item[1], item[3])
    return item[1:3] if item[0] in ("branch", "return") else None


def top_op(machine, tile):
    """The op, or the word of the leaf, at the top of the pattern of a tile's outermost rule."""
    return machine[4][tile[0]][2][0]


def targets_of(end):
    """The labels of an end, each once, in order."""
    if end[0] == "return":
        return ()
    labels = end[1:] if end[0] == "go" else end[3:]
    return labels[:1] if labels[:1] == labels[1:] else labels


def _is_label(value):
    return is_within(value, 0, LAST_LABEL)


def _is_register(machine, value):
    return is_within(value, 0, machine[1] - 1)


def _is_cell(machine, value):
    return is_within(value, 0, machine[2] - 1)


def _has_block_form(value):
    return is_row(value, 3) and _is_label(value[0]) and type(value[1]) is tuple and type(value[2]) is tuple


def _has_form(machine, value):
    if not is_row(value, 2) or type(value[0]) is not tuple or type(value[1]) is not tuple:
        return False
    params, blocks = value
    if not all(_is_register(machine, param) for param in params) or len(set(params)) < len(params):
        return False
    return blocks != () and all(_has_block_form(block) for block in blocks)


def _is_acting(machine, tile, operands, ops):
    """Whether these are a tile without a result, whose pattern has one of the ops, and operands for it."""
    return is_tile(machine, "", tile) and top_op(machine, tile) in ops and are_operands(machine, tile, operands)


def _is_instruction(machine, value):
    if is_row(value, 4) and value[0] == "tile":
        _, tile, d, operands = value
        if is_within(d, -1, -1):
            return _is_acting(machine, tile, operands, ("write", "store"))
        return _is_register(machine, d) and is_tile(machine, "reg", tile) and are_operands(machine, tile, operands)
    if not is_row(value, 3):
        return False
    word, first, second = value
    if word == "move":
        return _is_register(machine, first) and _is_register(machine, second)
    if word == "spill":
        return _is_cell(machine, first) and _is_register(machine, second)
    return word == "fill" and _is_register(machine, first) and _is_cell(machine, second)


def _is_end(machine, value):
    if is_row(value, 2):
        return value[0] == "go" and _is_label(value[1])
    if is_row(value, 3):
        return value[0] == "return" and _is_acting(machine, value[1], value[2], ("return",))
    if not is_row(value, 5) or value[0] != "branch" or not _is_acting(machine, value[1], value[2], ("branch",)):
        return False
    return _is_label(value[3]) and _is_label(value[4])


def _keeps_ties(machine, item):
    """Whether an instruction or end keeps the ties of its rule."""
    found = tile_of(item)
    if found is None:
        return True
    return ties_kept(machine, found[0], item[2] if item[0] == "tile" else -1, found[1])


def _block_faults(machine, block, counts):
    """The codes of the faults of a block; counts has how many blocks have a label."""
    label, rows, end = block
    found = ["twice"] if counts[label] > 1 else []
    for row in rows:
        if not _is_instruction(machine, row):
            found.append("instruction")
        elif not _keeps_ties(machine, row):
            found.append("tie")
    if not _is_end(machine, end):
        return [*found, "end"]
    if not _keeps_ties(machine, end):
        found.append("tie")
    if any(target not in counts for target in targets_of(end)):
        found.append("target")
    return found


def code_faults(machine, value):
    """The faults of any plain value as code for a machine: pairs of a label and a code, ascending."""
    if not _has_form(machine, value):
        return [(-1, "form")]
    counts = {}
    for block in value[1]:
        counts[block[0]] = counts.get(block[0], 0) + 1
    found = {}
    for block in value[1]:
        for code in _block_faults(machine, block, counts):
            found[(block[0], code)] = True
    return sorted(found)


def _item_cost(machine, item):
    """What an instruction or end costs."""
    found = tile_of(item)
    if found is not None:
        return tile_cost(machine, found[0])
    return 0 if item[0] == "go" else machine[3][OWN_WORDS.index(item[0])]


def cost_of(machine, code):
    """The sum of the costs of all instructions and ends."""
    return sum([_item_cost(machine, item) for _, rows, end in code[1] for item in [*rows, end]])


def reads(machine, instruction):
    """The registers that an instruction or end reads, ascending, each once."""
    found = tile_of(instruction)
    named = []
    if found is not None:
        tile, operands = found
        named = [operand for leaf, operand in zip(leaves(machine, tile), operands) if leaf[0] == "reg"]
    elif instruction[0] in ("move", "spill"):
        named = [instruction[2]]
    return tuple(sorted(set(named)))


def changes(instruction):
    """The register that an instruction changes, or -1."""
    if instruction[0] == "tile":
        return instruction[2]
    return instruction[1] if instruction[0] in ("move", "fill") else -1
