"""Form tables for the tests, and their meaning by the words of the document."""

from leasttiles.codes import tile_of
from leasttiles.machines import leaves

OWN = {"move": ["result", ("leaf", 0)], "spill": [("leaf", 0), ("leaf", 1)], "fill": ["result", ("leaf", 0)],
       "go": ["target"]}


def things(machine, shape):
    """What stands in a shape: "result", "target" and ("leaf", k)."""
    if isinstance(shape, str):
        return list(OWN[shape])
    found = [("leaf", k) for k in range(len(leaves(machine, shape)))]
    if machine[4][shape[0]][1] == "reg":
        found.append("result")
    elif machine[4][shape[0]][2][0] == "branch":
        found.append("target")
    return found


def many_values(machine, shape, thing):
    """How many values a result or leaf may have."""
    if isinstance(shape, str):
        is_cell = shape in ("spill", "fill") and thing == ("leaf", 0)
        return machine[2] if is_cell else machine[1]
    if thing == "result":
        return machine[1]
    leaf = leaves(machine, shape)[thing[1]]
    return machine[1] if leaf[0] == "reg" else leaf[2] - leaf[1] + 1


def bits_for(many):
    """The least size of a field for so many values, at least 1."""
    return max(1, (many - 1).bit_length())


def any_form(dice, machine, shape, code_bits, number):
    """A form for a shape with fixed bits ahead that no other form has, and its fields in any order."""
    rest = 32 - code_bits
    fields = []
    for thing in things(machine, shape):
        if thing != "target":
            size = bits_for(many_values(machine, shape, thing))
            fields.append((thing, size) if thing == "result" else ("leaf", thing[1], size))
            rest -= size
    if "target" in things(machine, shape):
        fields.append(("target", min(rest, dice.number(11, 16))))
        rest -= fields[-1][-1]
    while rest > 0:
        kind = dice.number(0, 2)
        size = dice.number(1, rest)
        if kind or not fields:
            fields.append(("bits", size, dice.number(0, 2 ** size - 1)))
        else:
            at = dice.number(0, len(fields) - 1)
            if fields[at][0] == "bits":
                continue
            fields[at] = (*fields[at][:-1], fields[at][-1] + size)
        rest -= size
    dice.source.shuffle(fields)
    return (shape, (("bits", code_bits, number), *fields))


def shapes_of(code):
    """The shapes that code has."""
    found = []
    for _, rows, end in code[1]:
        for item in [*rows, end, ("go", 0)]:
            pair = tile_of(item)
            shape = item[0] if pair is None else pair[0]
            if shape not in found:
                found.append(shape)
    return found


def any_table(dice, machine, code):
    """A form table for code without overlaps."""
    shapes = shapes_of(code)
    dice.source.shuffle(shapes)
    code_bits = bits_for(len(shapes))
    numbers = dice.source.sample(range(2 ** code_bits), len(shapes))
    return tuple(any_form(dice, machine, shape, code_bits, number) for shape, number in zip(shapes, numbers))
