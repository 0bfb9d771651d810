"""How expressions and patterns are written and read; their leaves are handed in."""

from leasttiles.errors import TextError
from leasttiles.words import PAIRS, SINGLES

MOST_DEEP = 20

# The signs stand in the order of the ops in PAIRS and SINGLES.
PAIR_SIGNS = ("+", "-", "*", "&", "|", "^", "<<", ">>", "<", "=")
SINGLE_SIGNS = ("~", "-")


def show_nested(e, show_leaf):
    """The text of an expression or pattern."""
    op = e[0]
    if op == "load":
        return f"[{show_nested(e[1], show_leaf)}]"
    if op in SINGLES:
        return SINGLE_SIGNS[SINGLES.index(op)] + show_nested(e[1], show_leaf)
    if op in PAIRS:
        sign = PAIR_SIGNS[PAIRS.index(op)]
        return f"({show_nested(e[1], show_leaf)} {sign} {show_nested(e[2], show_leaf)})"
    return show_leaf(e)


def read_nested(line, read_leaf, deep=MOST_DEEP):
    """Take an expression or pattern from a line that nests at most so deep."""
    if deep < 1:
        raise TextError(line.where)
    token = line.peek()
    if token == "[":
        line.need("[")
        part = read_nested(line, read_leaf, deep - 1)
        line.need("]")
        return ("load", part)
    if token in SINGLE_SIGNS:
        line.need(token)
        return (SINGLES[SINGLE_SIGNS.index(token)], read_nested(line, read_leaf, deep - 1))
    if token == "(":
        return _read_pair(line, read_leaf, deep)
    return read_leaf(line)


def _read_pair(line, read_leaf, deep):
    line.need("(")
    first = read_nested(line, read_leaf, deep - 1)
    sign = line.take()
    if sign not in PAIR_SIGNS:
        raise TextError(line.where)
    second = read_nested(line, read_leaf, deep - 1)
    line.need(")")
    return (PAIRS[PAIR_SIGNS.index(sign)], first, second)
