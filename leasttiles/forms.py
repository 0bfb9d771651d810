"""Form tables: how instructions and ends are written as words of 32 bits."""

from leasttiles.codes import top_op
from leasttiles.machines import is_tile, leaves
from leasttiles.plain import is_row, is_within

WORD_BITS = 32

RESULT = ("result",)
TARGET = ("target",)


def _is_shape(machine, value):
    """Whether any plain value is a shape."""
    if type(value) is str:
        return value in ("move", "spill", "fill", "go")
    return is_tile(machine, "reg", value) or is_tile(machine, "", value)


def _is_size(value):
    return is_within(value, 1, WORD_BITS)


def _is_field(value):
    """Whether any plain value is a field of a form."""
    if is_row(value, 2):
        return value[0] in ("result", "target") and _is_size(value[1])
    if not is_row(value, 3):
        return False
    if value[0] == "bits":
        return _is_size(value[1]) and is_within(value[2], 0, (1 << value[1]) - 1)
    return value[0] == "leaf" and type(value[1]) is int and value[1] >= 0 and _is_size(value[2])


def _size_of(field):
    """How many bits a field has."""
    return field[1] if field[0] == "bits" else field[-1]


def _own_limits(machine, word):
    """The limits of what stands in a move, spill, fill or go."""
    registers = (0, machine[1] - 1)
    cells = (0, machine[2] - 1)
    if word == "move":
        return {RESULT: registers, ("leaf", 0): registers}
    if word == "spill":
        return {("leaf", 0): cells, ("leaf", 1): registers}
    return {RESULT: registers, ("leaf", 0): cells} if word == "fill" else {TARGET: None}


def _limits(machine, shape):
    """For each thing that stands in a shape the least and the greatest integer that it may be, None for the target.

    The things are named like their fields, without the size.
    """
    if type(shape) is str:
        return _own_limits(machine, shape)
    found = {}
    for k, leaf in enumerate(leaves(machine, shape)):
        found[("leaf", k)] = (0, machine[1] - 1) if leaf[0] == "reg" else leaf[1:]
    if machine[4][shape[0]][1] == "reg":
        found[RESULT] = (0, machine[1] - 1)
    elif top_op(machine, shape) == "branch":
        found[TARGET] = None
    return found


def _field_codes(limits, fields):
    """The codes of the faults that right fields have beside one another."""
    named = [field for field in fields if field[0] != "bits"]
    found = [] if sorted([field[:-1] for field in named]) == sorted(limits) else ["needs"]
    for field in named:
        pair = limits.get(field[:-1])
        if pair is not None and pair[1] - pair[0] >= 1 << field[-1]:
            return [*found, "size"]
    return found


def table_faults(machine, value):
    """The faults of any plain value as a form table: pairs of a form's number and a code, ascending."""
    if type(value) is not tuple:
        return [(-1, "form")]
    found = []
    shapes = []
    for at, form in enumerate(value):
        if not is_row(form, 2) or not _is_shape(machine, form[0]) or type(form[1]) is not tuple or form[0] in shapes:
            found.append((at, "shape"))
            continue
        shape, fields = form
        shapes.append(shape)
        if not all(_is_field(field) for field in fields) or sum([_size_of(field) for field in fields]) != WORD_BITS:
            found.append((at, "field"))
        else:
            found.extend([(at, code) for code in _field_codes(_limits(machine, shape), fields)])
    return found


def _fixed_bits(fields):
    """The bits that a form fixes: a mask of their places, and the word that has them and else 0."""
    mask = 0
    fixed = 0
    for field in fields:
        size = _size_of(field)
        bits = field[0] == "bits"
        mask = mask << size | ((1 << size) - 1 if bits else 0)
        fixed = fixed << size | (field[2] if bits else 0)
    return (mask, fixed)


def overlaps(machine, table):
    """The pairs of numbers of forms for which no bit is fixed by both with different values, ascending."""
    rows = [_fixed_bits(fields) for _, fields in table]
    found = []
    for j, (mask, fixed) in enumerate(rows):
        for i in range(j):
            if (rows[i][1] ^ fixed) & rows[i][0] & mask == 0:
                found.append((i, j))
    return sorted(found)


def _shape_of(item):
    """The shape of an instruction or end."""
    return item[1] if item[0] in ("tile", "branch", "return") else item[0]


def _values_of(item, distance):
    """What stands in an instruction or end, by the names of things in shapes."""
    if item[0] == "move" or item[0] == "fill":
        return {RESULT: item[1], ("leaf", 0): item[2]}
    if item[0] == "spill":
        return {("leaf", 0): item[1], ("leaf", 1): item[2]}
    operands = item[3] if item[0] == "tile" else () if item[0] == "go" else item[2]
    found = {("leaf", k): operand for k, operand in enumerate(operands)}
    if item[0] == "tile":
        found[RESULT] = item[2]
    found[TARGET] = distance
    return found


def _number_for(field, value, limits):
    """The number that stands in a field for a value, or None if it is a distance that is too great."""
    size = field[-1]
    if field[0] != "target":
        return value - limits[field[:-1]][0]
    half = 1 << (size - 1)
    return value & ((1 << size) - 1) if -half <= value < half else None


def encode(machine, table, item, distance):
    """The word of an instruction or end, or None."""
    shape = _shape_of(item)
    rows = [fields for other, fields in table if other == shape]
    if rows == []:
        return None
    limits = _limits(machine, shape)
    values = _values_of(item, distance)
    word = 0
    for field in rows[0]:
        number = field[2] if field[0] == "bits" else _number_for(field, values[field[:-1]], limits)
        if number is None:
            return None
        word = word << _size_of(field) | number
    return word


def _values_in(fields, word, limits):
    """What stands in the fields of a word, by the names of things in shapes, or None if that may not be."""
    found = {}
    behind = WORD_BITS
    for field in fields:
        size = _size_of(field)
        behind -= size
        number = word >> behind & ((1 << size) - 1)
        if field[0] == "target":
            found[TARGET] = number - (1 << size) if number >> (size - 1) == 1 else number
        elif field[0] != "bits":
            least, most = limits[field[:-1]]
            if least + number > most:
                return None
            found[field[:-1]] = least + number
    return found


def _item_of(machine, shape, values):
    """The instruction or end of a shape in which these values stand."""
    if shape == "go":
        return ("go", 0)
    if shape == "spill":
        return ("spill", values[("leaf", 0)], values[("leaf", 1)])
    if type(shape) is str:
        return (shape, values[RESULT], values[("leaf", 0)])
    operands = tuple([values[("leaf", k)] for k in range(len(leaves(machine, shape)))])
    op = top_op(machine, shape)
    if op == "branch":
        return ("branch", shape, operands, 0, 0)
    return ("return", shape, operands) if op == "return" else ("tile", shape, values.get(RESULT, -1), operands)


def decode(machine, table, word):
    """The instruction or end of a word and its distance, or None."""
    if word >> WORD_BITS != 0:
        return None
    for shape, fields in table:
        mask, fixed = _fixed_bits(fields)
        if word & mask == fixed:
            values = _values_in(fields, word, _limits(machine, shape))
            return None if values is None else (_item_of(machine, shape, values), values.get(TARGET, 0))
    return None
