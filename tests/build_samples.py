"""Code with certificates for the tests, put together by the words of the document, and ways to change it."""

import itertools

from code_samples import any_instruction, any_operands, any_tile, full_machine, looping_function, untied, with_rules
from leasttiles.codes import code_faults
from leasttiles.colour import assign
from leasttiles.emit import emit, tied
from leasttiles.errors import NoRegisters
from leasttiles.live import live_at
from leasttiles.schedule import in_order, list_schedule


def built(machine, function, ordered=True):
    """The code and the certificate of [11.1]."""
    wide, fixed = tied(machine, emit(machine, function))
    if ordered:
        wide = (wide[0], tuple((label, tuple(in_order(rows, list_schedule(machine, rows))), end)
                               for label, rows, end in wide[1]))
    code, places = assign(machine, wide, fixed)
    places = dict(places)
    live = live_at(machine, wide)[1:]
    return code, tuple(sorted((label, tuple((v, places[v]) for v in names)) for label, names in live))


def all_words(width, many):
    return list(itertools.product(range(2 ** width), repeat=many))


def any_pair(dice, ties=None, width=None, blocks=6):
    """A random machine and function with the code and certificate that are made for them, or None."""
    width = dice.number(1, 16) if width is None else width
    ties = dice.number(0, 1) == 1 if ties is None else ties
    machine = full_machine(dice, width, dice.pick([4, 5, 6, 16]), dice.pick([4, 20, 64]), ties)
    function = looping_function(dice, width, dice.number(1, 8), dice.number(1, blocks), dice.number(1, 4))
    try:
        return (machine, function, *built(machine, function, dice.number(0, 1) == 1))
    except NoRegisters:
        return None


def _changed_row(dice, machine, row):
    """An instruction or end changed at one place, perhaps into one that the machine has not."""
    registers, cells = range(machine[1]), range(max(machine[2], 1))
    kind = dice.number(0, 2)
    if row[0] == "tile" and kind == 0:
        made = any_tile(dice, machine, dice.number(0, len(machine[4]) - 1))
        return ("tile", made, row[2], any_operands(dice, machine, made, registers))
    if row[0] == "tile" and kind == 1 and row[2] >= 0:
        return (*row[:2], dice.pick(registers), row[3])
    if row[0] == "tile":
        return (*row[:3], any_operands(dice, machine, row[1], registers))
    if row[0] in ("branch", "return"):
        return (*row[:2], any_operands(dice, machine, row[1], registers), *row[3:])
    if row[0] == "go":
        return row
    at = dice.number(1, 2)
    return (*row[:at], dice.pick(cells if (row[0], at) in (("spill", 1), ("fill", 2)) else registers), *row[at + 1:])


def _changed_block(dice, machine, block, labels):
    """A block of code changed at one place."""
    label, rows, end = block
    rows, kind = list(rows), dice.number(0, 6)
    if kind == 0 or not rows:
        if dice.number(0, 1):
            return (label, tuple(rows), _changed_row(dice, machine, end))
        ends = [("go", dice.pick(labels)), (*end[:3], dice.pick(labels), end[-1]), (*end[:-1], dice.pick(labels))]
        return (label, tuple(rows), dice.pick(ends))
    at = dice.number(0, len(rows) - 1)
    if kind == 1:
        del rows[at]
    elif kind == 2:
        rows.insert(at, rows[at])
    elif kind == 3:
        rows[at:at + 2] = rows[at:at + 2][::-1]
    elif kind == 4:
        rows.insert(at, any_instruction(dice, machine, range(machine[1]), range(machine[2])))
    else:
        rows[at] = _changed_row(dice, machine, rows[at])
    return (label, tuple(rows), end)


def changed_code(dice, machine, code):
    """Code changed at one place."""
    params, blocks = code
    if params and dice.number(0, 19) == 0:
        return (tuple(dice.source.sample(range(machine[1]), len(params))), blocks)
    at = dice.number(0, len(blocks) - 1)
    labels = [block[0] for block in blocks]
    return (params, (*blocks[:at], _changed_block(dice, machine, blocks[at], labels), *blocks[at + 1:]))


def changed_certificate(dice, machine, certificate):
    """A certificate with a claim left out, put in, or with another variable or place."""
    if not certificate:
        return certificate
    at = dice.number(0, len(certificate) - 1)
    label, claims = certificate[at]
    place = ("reg", dice.number(0, machine[1] - 1))
    if machine[2] and dice.number(0, 1):
        place = ("cell", dice.number(0, machine[2] - 1))
    claims, kind = list(claims), dice.number(0, 3)
    if kind == 0 or not claims:
        claims.append((dice.number(0, 9), place))
    else:
        k = dice.number(0, len(claims) - 1)
        if kind == 1:
            del claims[k]
        else:
            claims[k] = (claims[k][0], place) if kind == 2 else (dice.number(0, 9), claims[k][1])
    return (*certificate[:at], (label, tuple(sorted(claims))), *certificate[at + 1:])


def roomy(dice, width, variables):
    """A machine without ties that has the room that [7.3] names for few names, and one with the least room."""
    machine = untied(full_machine(dice, width, 16, 64))
    return machine, with_rules(machine, registers=max(7, variables + 1))


def is_code(machine, code):
    return code_faults(machine, code) == []
