"""The checker: which code does what a function does, as its certificate tells."""

from leasttiles.codes import code_faults
from leasttiles.deeds import Duty, rows_of
from leasttiles.functions import LAST_VARIABLE
from leasttiles.plain import is_row, is_within


def _has_blocks(machine, function, code):
    """Whether any plain value is code without faults that has the function's labels, first block and params."""
    if code_faults(machine, code):
        return False
    params, blocks = code
    mine = [block[0] for block in function[2]]
    others = [block[0] for block in blocks]
    return len(params) == function[1] and mine[0] == others[0] and sorted(mine) == sorted(others)


def _is_place(machine, value):
    if not is_row(value, 2):
        return False
    if value[0] == "reg":
        return is_within(value[1], 0, machine[1] - 1)
    return value[0] == "cell" and is_within(value[1], 0, machine[2] - 1)


def _is_claim(machine, value):
    return is_row(value, 2) and is_within(value[0], 0, LAST_VARIABLE) and _is_place(machine, value[1])


def _are_claims(machine, value):
    """Whether any plain value is an ascending tuple of claims, each place once."""
    if type(value) is not tuple or not all(_is_claim(machine, claim) for claim in value):
        return False
    places = [place for _, place in value]
    return list(value) == sorted(value) and len(set(places)) == len(places)


def _is_certificate(machine, function, value):
    """Whether any plain value is a certificate for the function."""
    labels = sorted([block[0] for block in function[2][1:]])
    if not is_row(value, len(labels)):
        return False
    for item, label in zip(value, labels):
        if not is_row(item, 2) or not is_within(item[0], label, label) or not _are_claims(machine, item[1]):
            return False
    return True


def refusal(machine, function, code, certificate):
    """Why code with a certificate, any plain value, is refused: a pair of a label and a reason, or None."""
    if not _has_blocks(machine, function, code):
        return (-1, "code")
    if not _is_certificate(machine, function, certificate):
        return (-1, "form")
    others = {block[0]: block for block in code[1]}
    for block in sorted(function[2]):
        reason = Duty(function, code[0], certificate, block).reason(rows_of(machine, others[block[0]]))
        if reason is not None:
            return (block[0], reason)
    return None


def check(machine, function, code, certificate):
    """Whether code with a certificate is taken."""
    return refusal(machine, function, code, certificate) is None
