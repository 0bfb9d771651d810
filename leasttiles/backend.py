"""The back end: code with a certificate for a function, and code with fewer instructions."""

from leasttiles.coderun import run_code
from leasttiles.colour import assign
from leasttiles.deeds import Duty
from leasttiles.emit import emit, tied
from leasttiles.live import live_at
from leasttiles.run import run
from leasttiles.schedule import in_order, list_schedule
from leasttiles.trimmer import trimmed_rows


def _in_best_order(machine, block):
    """A block of wide code in the order of its schedule."""
    label, rows, end = block
    return (label, tuple(in_order(rows, list_schedule(machine, rows))), end)


def build(machine, function, *, ordered=True):
    """The code of a function for a machine, and its certificate."""
    wide, fixed = tied(machine, emit(machine, function))
    if ordered:
        wide = (wide[0], tuple([_in_best_order(machine, block) for block in wide[1]]))
    code, pairs = assign(machine, wide, fixed)
    places = {variable: place for variable, place in pairs}
    certificate = []
    for label, names in live_at(machine, wide)[1:]:
        certificate.append((label, tuple([(name, places[name]) for name in names])))
    return (code, tuple(sorted(certificate)))


def trim(machine, function, code, certificate):
    """The code, which check takes with the certificate, without instructions that can be left out."""
    params, blocks = code
    wanted = {block[0]: block for block in function[2]}
    found = []
    for block in blocks:
        # What one block does depends on no other one, so only the block itself is asked.
        duty = Duty(function, params, certificate, wanted[block[0]])
        found.append((block[0], trimmed_rows(machine, duty, block), block[2]))
    return (params, tuple(found))


def runs_alike(machine, function, code, inputs, fuel):
    """Whether the run of code and that of a function are equal."""
    return run_code(machine, code, inputs, fuel=fuel) == run(function, inputs, fuel=fuel)
