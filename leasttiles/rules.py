"""The form of the rules of a machine."""

from leasttiles.plain import DIGITS, LETTERS, is_row, is_within
from leasttiles.words import PAIRS, SINGLES

MOST_DEEP = 6
LEAST_IMM = -32768
MOST_IMM = 65536
TAKEN = ("reg", "move", "spill", "fill", "block", "go", "branch", "return", "params")

# The ops that stand only at the top of a pattern or tree, and how many parts they have.
TOPS = {"write": 1, "store": 2, "branch": 1, "return": 1}


def is_name(value):
    """Whether any plain value is a name that is not taken."""
    if type(value) is not str or not 1 <= len(value) <= 12 or value[0] not in LETTERS:
        return False
    if not all(sign in LETTERS + DIGITS for sign in value):
        return False
    return value not in TAKEN and not (value[0] in "rs" and value[1:].isdigit())


def is_rule(value):
    """Whether any plain value is a rule, but for what its pattern and its ties are made of."""
    if not is_row(value, 7):
        return False
    name, result, pattern, cost, latency, unit, ties = value
    if not is_name(name) or not (result in ("", "reg") or is_name(result)):
        return False
    if type(pattern) is not tuple or type(ties) is not tuple:
        return False
    if not is_within(cost, 0, 99) or not is_within(latency, 1, 9) or not is_within(unit, 0, 3):
        return False
    return result in ("", "reg") or (latency == 1 and unit == 0 and ties == ())


def is_leaf(value):
    """Whether any plain value is a leaf of a pattern."""
    if is_row(value, 1):
        return value[0] == "reg"
    if is_row(value, 2):
        return value[0] == "nt" and is_name(value[1])
    if not is_row(value, 3) or value[0] != "imm":
        return False
    return is_within(value[1], LEAST_IMM, MOST_IMM) and is_within(value[2], value[1], MOST_IMM)


def _is_inner(value, deep):
    """Whether any plain value can stand in a pattern and nests at most so deep."""
    if deep < 1 or type(value) is not tuple:
        return False
    if is_leaf(value):
        return True
    if len(value) == 2:
        fits = value[0] == "load" or value[0] in SINGLES
    else:
        fits = len(value) == 3 and value[0] in PAIRS
    return fits and all(_is_inner(part, deep - 1) for part in value[1:])


def is_pattern(result, value):
    """Whether a tuple is a pattern whose top fits the result."""
    if result != "":
        return _is_inner(value, MOST_DEEP)
    if value == () or type(value[0]) is not str or TOPS.get(value[0]) != len(value) - 1:
        return False
    return all(_is_inner(part, MOST_DEEP - 1) for part in value[1:])


def pattern_leaves(pattern):
    """The leaves of a pattern, from left to right."""
    if pattern[0] in ("reg", "imm", "nt"):
        return [pattern]
    return [leaf for part in pattern[1:] for leaf in pattern_leaves(part)]


def _is_tie(rule, registers, own, value):
    """Whether any plain value is a tie of a rule with these leaves of its own."""
    if is_row(value, 2) and value[0] == "result":
        return rule[1] == "reg" and is_within(value[1], 0, registers - 1)
    if is_row(value, 2) and value[0] == "same":
        right = rule[1] == "reg"
    else:
        right = is_row(value, 3) and value[0] == "needs" and is_within(value[2], 0, registers - 1)
    return right and is_within(value[1], 0, len(own) - 1) and own[value[1]][0] == "reg"


def are_ties(rule, registers):
    """Whether the ties of a rule with a right pattern are all ties, and none stands there twice."""
    own = pattern_leaves(rule[2])
    found = {}
    for tie in rule[6]:
        if not _is_tie(rule, registers, own, tie):
            return False
        key = tie[:2] if tie[0] == "needs" else tie[:1]
        if key in found:
            return False
        found[key] = True
    return True


def is_chain(rule):
    """Whether a rule leads from a tree to the same tree in a way that is not allowed."""
    _, result, pattern, cost, _, _, _ = rule
    if pattern == ("reg",):
        return cost == 0 or result == "reg"
    return is_leaf(pattern) and pattern[0] == "nt" and cost == 0
