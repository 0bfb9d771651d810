"""Registers and frame cells for the names of wide code."""

from leasttiles.codes import reads
from leasttiles.edges import Ending, place_homes, place_zeros, seat_params
from leasttiles.errors import NoRegisters
from leasttiles.homes import Homes
from leasttiles.live import Life
from leasttiles.machines import leaves
from leasttiles.room import Plan, Room

FIRST_TEMPORARY = 100


def _next_reads(steps, behind):
    """For each step how far the names that it reads or gives are read next behind it, None for never.

    The names live ahead of the steps stand beside, with how far they are read next.
    """
    later = {name: len(steps) for name in behind}
    found = []
    for at in range(len(steps) - 1, -1, -1):
        names, d, _ = steps[at]
        mine = {name: later.get(name) for name in names}
        if d != -1:
            mine[d] = later.pop(d, None)
        for name in names:
            later[name] = at
        found.append(mine)
    return found[::-1], later


def _seated(machine, tile, operands, seats):
    """The operands with registers in the place of names."""
    return tuple([seats[n] if leaf[0] == "reg" else n for leaf, n in zip(leaves(machine, tile), operands)])


def _seated_end(machine, end, seats):
    """The end with registers in the place of names."""
    if end[0] == "go":
        return end
    return (end[0], end[1], _seated(machine, end[1], end[2], seats), *end[3:])


def _result_register(room, tile, d, pinned):
    """A register for the result of a tile whose operands are in theirs; what is live there has left it."""
    same = any(tie[0] == "same" for tie in room.plan.machine[4][tile[0]][6])
    numbers = list(range(room.plan.many))
    unused = [q for q in numbers if not room.live_held(q)]
    if same and d in room.seat:
        r = room.seat[d]
    elif d in room.plan.fixed:
        r = room.plan.fixed[d]
    elif unused:
        r = room.best(d, unused)
    else:
        r = max(numbers, key=room.read_next)
    if room.live_held(r):
        room.push_out(r, room.live_held(r), pinned)
    return r


def _do_tile(room, row, after):
    """Write an instruction with a tile."""
    _, tile, d, operands = row
    machine = room.plan.machine
    names = reads(machine, row)
    pinned = room.bring(names)
    placed = _seated(machine, tile, operands, room.seat)
    r = -1
    for name in names:
        if after[name] is None or name == d:
            room.soon.pop(name)
        else:
            room.soon[name] = after[name]
    if d != -1:
        r = _result_register(room, tile, d, pinned)
    room.rows.append(("tile", tile, r, placed))
    room.forget(d)
    room.pass_by(after)
    if d in room.soon:
        room.put(d, r)


def _do_move(room, row, after):
    """Let a name stand where the one stands that is moved to it."""
    _, d, s = row
    if d != s and after[d] is not None:
        if s not in room.seat:
            room.fill(s, room.pick(d, {}))
        room.put(d, room.seat[s])
    room.pass_by(after)


class Painter:
    """Gives wide code registers and cells, block by block."""

    def __init__(self, machine, wide, fixed):
        self.machine = machine
        self.wide = wide
        self.life = Life(machine, wide)
        self.homes = Homes(machine, self.life, fixed)
        self.plan = Plan(machine, wide, fixed, self.homes.choose())
        self.params = ()

    def begin_entry(self, room, live):
        """Place the names that are live at the entry; the registers of the inputs are noted."""
        params = self.wide[0]
        again = self.homes.enters_again()
        zeros = [name for name in live if name not in params]
        wanted = {name: self.plan.fixed[name] for name in params if name in self.plan.fixed}
        barred = []
        # On the way back to the entry the names come to their places, so they stand there at first, too.
        placed = live if again else []
        for name in placed:
            word, number = self.plan.homes[name]
            if name in params:
                wanted[name] = number
            elif word == "reg":
                barred.append(number)
        found = seat_params(room, params, wanted, barred)
        self.params = tuple([found[name] for name in params])
        for name in params:
            if name in live:
                room.put(name, found[name])
        if again:
            place_homes(room, zeros)
        else:
            place_zeros(room, zeros, self.params)

    def write_block(self, block):
        """The block with registers and cells."""
        label, rows, end = block
        behind = self.homes.behind[label]
        after, soon = _next_reads(self.life.steps[label], behind)
        room = Room(self.plan, label)
        room.soon = soon
        for name in behind:
            if self.plan.homes[name][0] == "reg":
                room.shunned[self.plan.homes[name][1]] = True
        if label == self.life.labels[0]:
            self.begin_entry(room, sorted(soon))
        else:
            place_homes(room, sorted(soon))
        for row, mine in zip(rows, after):
            if row[0] == "move":
                _do_move(room, row, mine)
            else:
                _do_tile(room, row, mine)
        ending = Ending(room, end, behind)
        ending.settle()
        return (label, tuple(room.rows), _seated_end(self.machine, end, ending.seats))

    def variable_places(self):
        """The places of the variables that are live at the beginning of a block but the entry."""
        live = [name for label in self.life.labels[1:] for name in self.life.live[label]]
        return tuple([(name, self.plan.homes[name]) for name in sorted(set(live)) if name < FIRST_TEMPORARY])


def _fixed_registers(wide, fixed):
    """The registers of fixed names as a dict; a name that wants two has no way."""
    found = {}
    for name, r in fixed:
        if found.setdefault(name, r) != r:
            raise NoRegisters(wide[1][0][0])
    return found


def assign(machine, wide, fixed):
    """Code with registers and frame cells for wide code, and the places of its variables."""
    painter = Painter(machine, wide, _fixed_registers(wide, fixed))
    blocks = [painter.write_block(block) for block in wide[1]]
    return ((painter.params, tuple(blocks)), painter.variable_places())
