"""Code as text."""

from leasttiles.errors import TextError
from leasttiles.machines import leaves
from leasttiles.reader import Lines, number_of


def _show_tile(machine, tile):
    """The name of a tile's rule, and its tiles in brackets; tiles nest too deep for a function that calls itself."""
    pieces = []
    waiting = [tile]
    while waiting:
        here = waiting.pop()
        if type(here) is str:
            pieces.append(here)
            continue
        k, tiles = here
        pieces.append(machine[4][k][0])
        for at in range(len(tiles) - 1, -1, -1):
            waiting.append("]" if at == len(tiles) - 1 else ", ")
            waiting.append(tiles[at])
        if tiles:
            waiting.append("[")
    return "".join(pieces)


def _show_call(machine, tile, operands):
    """The text of a tile and its operands."""
    words = [f"r{n}" if leaf[0] == "reg" else str(n) for leaf, n in zip(leaves(machine, tile), operands)]
    told = ", ".join(words)
    return f"{_show_tile(machine, tile)}({told})"


def _show_instruction(machine, row):
    if row[0] == "tile":
        _, tile, d, operands = row
        call = _show_call(machine, tile, operands)
        return call if d == -1 else f"r{d} = {call}"
    word, first, second = row
    if word == "spill":
        return f"s{first} = r{second}"
    return f"r{first} = r{second}" if word == "move" else f"r{first} = s{second}"


def _show_end(machine, end):
    if end[0] == "go":
        return f"go {end[1]}"
    call = _show_call(machine, end[1], end[2])
    return f"return {call}" if end[0] == "return" else f"branch {call} {end[3]} {end[4]}"


def show_code(machine, code):
    """The text of code, each line ended by a line feed."""
    params, blocks = code
    lines = [" ".join(["params", *[f"r{param}" for param in params]])]
    for label, rows, end in blocks:
        lines.append(f"block {label}")
        lines.extend(["  " + _show_instruction(machine, row) for row in rows])
        lines.append("  " + _show_end(machine, end))
    return "".join([line + "\n" for line in lines])


def _numbered(token, sign):
    """The number of the register (sign r) or frame cell (sign s) that a token writes, or None."""
    return number_of(token[1:]) if token[:1] == sign else None


def _take_numbered(line, sign):
    number = _numbered(line.take(), sign)
    if number is None:
        raise TextError(line.where)
    return number


def _read_operand(line):
    """A register or a number; which of them a leaf asks for is left to the machine."""
    if line.peek() == "-":
        line.need("-")
        return -line.take_number()
    if line.peek()[:1] == "r":
        return _take_numbered(line, "r")
    return line.take_number()


def _read_operands(line):
    line.need("(")
    found = []
    while line.peek() != ")":
        if found:
            line.need(",")
        found.append(_read_operand(line))
    line.need(")")
    return tuple(found)


def _read_tile(line, names):
    """The tile that stands next; names has the numbers of the rules."""
    around = []
    while True:
        name = line.take()
        if name not in names:
            raise TextError(line.where)
        if line.peek() == "[":
            line.need("[")
            around.append((names[name], []))
            continue
        tile = (names[name], ())
        while around and line.peek() == "]":
            line.need("]")
            k, tiles = around.pop()
            tile = (k, (*tiles, tile))
        if not around:
            return tile
        line.need(",")
        around[-1][1].append(tile)


def _read_placed(line, names):
    """The instruction that gives a register or frame cell, from its first token on."""
    cell = _numbered(line.peek(), "s")
    if cell is not None:
        line.take()
        line.need("=")
        return ("spill", cell, _take_numbered(line, "r"))
    d = _take_numbered(line, "r")
    line.need("=")
    for word, sign in (("move", "r"), ("fill", "s")):
        if _numbered(line.peek(), sign) is not None:
            return (word, d, _take_numbered(line, sign))
    tile = _read_tile(line, names)
    return ("tile", tile, d, _read_operands(line))


def _read_end(line, names):
    word = line.take()
    if word == "go":
        return ("go", line.take_number())
    tile = _read_tile(line, names)
    operands = _read_operands(line)
    if word == "return":
        return ("return", tile, operands)
    return ("branch", tile, operands, line.take_number(), line.take_number())


def _read_item(line, names):
    """The instruction or end that a line writes."""
    word = line.peek()
    if word in ("go", "branch", "return"):
        item = _read_end(line, names)
    elif _numbered(word, "r") is not None or _numbered(word, "s") is not None:
        item = _read_placed(line, names)
    else:
        tile = _read_tile(line, names)
        item = ("tile", tile, -1, _read_operands(line))
    line.close()
    return item


def _read_block(lines, names):
    line = lines.take_header("block")
    label = line.take_number()
    line.close()
    rows = []
    item = _read_item(lines.take_line(), names)
    while item[0] not in ("go", "branch", "return"):
        rows.append(item)
        item = _read_item(lines.take_line(), names)
    return (label, tuple(rows), item)


def read_code(machine, text):
    """The code that a text writes; TextError tells the first wrong line."""
    names = {}
    for k, rule in enumerate(machine[4]):
        names.setdefault(rule[0], k)
    lines = Lines(text)
    line = lines.take_header("params")
    params = []
    while line.peek() != "":
        params.append(_take_numbered(line, "r"))
    blocks = [_read_block(lines, names)]
    while lines.more():
        blocks.append(_read_block(lines, names))
    return (tuple(params), tuple(blocks))
