"""Functions as text."""

from leasttiles.errors import TextError
from leasttiles.notation import read_nested, show_nested
from leasttiles.reader import Lines, number_of


def _show_leaf(e):
    return str(e[1]) if e[0] == "int" else f"v{e[1]}"


def show_expression(e):
    """The text of an expression."""
    return show_nested(e, _show_leaf)


def _show_item(item):
    """The text of a statement or an end."""
    word = item[0]
    if word == "set":
        return f"v{item[1]} = {show_expression(item[2])}"
    if word == "store":
        return f"[{show_expression(item[1])}] = {show_expression(item[2])}"
    if word == "go":
        return f"go {item[1]}"
    if word == "if":
        return f"if {show_expression(item[1])} {item[2]} {item[3]}"
    return f"{word} {show_expression(item[1])}"


def show_function(function):
    """The text of a function, each line ended by a line feed."""
    width, params, blocks = function
    lines = [f"width {width}", f"params {params}"]
    for label, body, end in blocks:
        lines.append(f"block {label}")
        for item in [*body, end]:
            lines.append("  " + _show_item(item))
    return "".join([line + "\n" for line in lines])


def _variable_of(token):
    """The number of the variable that a token writes, or None."""
    return number_of(token[1:]) if token[:1] == "v" else None


def _read_leaf(line):
    token = line.take()
    number = number_of(token)
    if number is not None:
        return ("int", number)
    v = _variable_of(token)
    if v is None:
        raise TextError(line.where)
    return ("var", v)


def _read_expression(line):
    return read_nested(line, _read_leaf)


def _read_number_line(lines, word):
    """The number on the next line, which is this word and a number."""
    line = lines.take_header(word)
    number = line.take_number()
    line.close()
    return number


def _read_set(line):
    v = _variable_of(line.take())
    if v is None:
        raise TextError(line.where)
    line.need("=")
    return ("set", v, _read_expression(line))


def _read_store(line):
    line.need("[")
    address = _read_expression(line)
    line.need("]")
    line.need("=")
    return ("store", address, _read_expression(line))


def _read_end(line):
    word = line.take()
    if word == "go":
        return ("go", line.take_number())
    e = _read_expression(line)
    if word == "return":
        return ("return", e)
    return ("if", e, line.take_number(), line.take_number())


def _read_item(line):
    """The statement or end that a line writes."""
    word = line.peek()
    if word in ("go", "if", "return"):
        item = _read_end(line)
    elif word == "write":
        line.need("write")
        item = ("write", _read_expression(line))
    elif word == "[":
        item = _read_store(line)
    else:
        item = _read_set(line)
    line.close()
    return item


def _read_block(lines):
    label = _read_number_line(lines, "block")
    body = []
    item = _read_item(lines.take_line())
    while item[0] not in ("go", "if", "return"):
        body.append(item)
        item = _read_item(lines.take_line())
    return (label, tuple(body), item)


def read_function(text):
    """The function that a text writes; TextError tells the first wrong line."""
    lines = Lines(text)
    width = _read_number_line(lines, "width")
    params = _read_number_line(lines, "params")
    blocks = [_read_block(lines)]
    while lines.more():
        blocks.append(_read_block(lines))
    return (width, params, tuple(blocks))
