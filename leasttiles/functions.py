"""The form of functions, their faults, and the ways through their blocks."""

from leasttiles.plain import is_row, is_within
from leasttiles.ways import live_names
from leasttiles.words import PAIRS, SINGLES, top

MOST_BLOCKS = 40
MOST_ITEMS = 60
MOST_DEEP = 20
MOST_PARAMS = 6
LAST_LABEL = 999
LAST_VARIABLE = 99


def is_width(value):
    """Whether any plain value is a width."""
    return is_within(value, 1, 16)


def is_expression(width, value, deep):
    """Whether any plain value is an expression that nests at most so deep."""
    if deep < 1 or type(value) is not tuple or len(value) < 2:
        return False
    op = value[0]
    if op == "int":
        return len(value) == 2 and is_within(value[1], 0, top(width))
    if op == "var":
        return len(value) == 2 and is_within(value[1], 0, LAST_VARIABLE)
    if op in PAIRS:
        size = 3
    elif op == "load" or op in SINGLES:
        size = 2
    else:
        return False
    return len(value) == size and all(is_expression(width, part, deep - 1) for part in value[1:])


def _is_statement(width, value):
    if is_row(value, 3) and value[0] == "set":
        return is_within(value[1], 0, LAST_VARIABLE) and is_expression(width, value[2], MOST_DEEP)
    if is_row(value, 3) and value[0] == "store":
        return is_expression(width, value[1], MOST_DEEP) and is_expression(width, value[2], MOST_DEEP)
    return is_row(value, 2) and value[0] == "write" and is_expression(width, value[1], MOST_DEEP)


def _is_label(value):
    return is_within(value, 0, LAST_LABEL)


def _is_end(width, value):
    if is_row(value, 2) and value[0] == "go":
        return _is_label(value[1])
    if is_row(value, 4) and value[0] == "if":
        return is_expression(width, value[1], MOST_DEEP) and _is_label(value[2]) and _is_label(value[3])
    return is_row(value, 2) and value[0] == "return" and is_expression(width, value[1], MOST_DEEP)


def _has_block_form(value):
    if not is_row(value, 3) or not _is_label(value[0]):
        return False
    return type(value[1]) is tuple and len(value[1]) <= MOST_ITEMS and type(value[2]) is tuple


def _has_form(value):
    if not is_row(value, 3) or not is_width(value[0]) or not is_within(value[1], 0, MOST_PARAMS):
        return False
    blocks = value[2]
    if type(blocks) is not tuple or not 1 <= len(blocks) <= MOST_BLOCKS:
        return False
    return all(_has_block_form(block) for block in blocks)


def _block_faults(width, block, labels):
    """The codes of the faults of a block; the first one of labels is the entry's."""
    label, body, end = block
    found = []
    if labels.count(label) > 1:
        found.append("twice")
    if not all(_is_statement(width, item) for item in body):
        found.append("statement")
    if not _is_end(width, end):
        return [*found, "end"]
    ways = successors(block)
    if any(way not in labels for way in ways):
        found.append("target")
    if labels[0] in ways:
        found.append("entry")
    return found


def function_faults(value):
    """The faults of any plain value as a function: pairs of a label and a code, ascending."""
    if not _has_form(value):
        return [(-1, "form")]
    labels = [block[0] for block in value[2]]
    found = {}
    for block in value[2]:
        for code in _block_faults(value[0], block, labels):
            found[(block[0], code)] = True
    return sorted(found)


def successors(block):
    """The labels to which the end of a block leads, each once, in order."""
    end = block[2]
    if end[0] == "go":
        return (end[1],)
    if end[0] == "return":
        return ()
    if end[2] == end[3]:
        return (end[2],)
    return (end[2], end[3])


def _mark_uses(e, found):
    """Put the variables of an expression into a dict."""
    if e[0] == "var":
        found[e[1]] = True
    elif e[0] != "int":
        for part in e[1:]:
            _mark_uses(part, found)


def uses(e):
    """The variables of an expression, ascending."""
    found = {}
    _mark_uses(e, found)
    return tuple(sorted(found))


def _item_expressions(item):
    """The expressions that a statement or an end reads."""
    if item[0] == "set":
        return item[2:]
    if item[0] == "store":
        return item[1:]
    return item[1:2] if item[0] != "go" else ()


def _uses_and_sets(block):
    """The variables that a block uses before it sets them, and those that it sets."""
    used = {}
    placed = {}
    for item in [*block[1], block[2]]:
        for e in _item_expressions(item):
            for v in uses(e):
                if v not in placed:
                    used[v] = True
        if item[0] == "set":
            placed[item[1]] = True
    return used, placed


def live_in(function):
    """For each block its label and the variables that some way from its beginning uses before it sets them."""
    blocks = function[2]
    live = live_names([(block[0], successors(block), *_uses_and_sets(block)) for block in blocks])
    return [(block[0], tuple(sorted(live[block[0]]))) for block in blocks]
