"""Moves that are to be done at once, one after the other."""


def _without_rings(pairs):
    """The pairs whose moves can be done one after the other, in such an order, and the others, which stand in rings.

    The others are a dict from registers to those whose words they get.
    """
    left = {d: s for d, s in pairs if d != s}
    readers = {}
    for d in left:
        readers[left[d]] = readers.get(left[d], 0) + 1
    row = []
    free = [d for d in left if d not in readers]
    while free:
        d = free.pop()
        s = left.pop(d)
        row.append((d, s))
        readers[s] -= 1
        if readers[s] == 0 and s in left:
            free.append(s)
    return row, left


def rings_of(pairs):
    """The rings of pairs: lists of pairs, each of which reads the register that the next one gives."""
    _, left = _without_rings(pairs)
    found = []
    starts = sorted(left)
    for first in starts:
        ring = []
        d = first
        while d in left:
            ring.append((d, left.pop(d)))
            d = ring[-1][1]
        if ring:
            found.append(ring)
    return found


def sequence(pairs, spare):
    """The moves that do one after the other what pairs of a register and the one whose word it gets say at once."""
    row, _ = _without_rings(pairs)
    found = [("move", d, s) for d, s in row]
    for ring in rings_of(pairs):
        found.append(("move", spare, ring[0][0]))
        found.extend([("move", d, s) for d, s in ring[:-1]])
        found.append(("move", ring[-1][0], spare))
    return found
