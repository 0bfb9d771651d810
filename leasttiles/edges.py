"""Where names stand at the beginning and at the end of a block."""

from leasttiles.codes import reads
from leasttiles.errors import NoRegisters
from leasttiles.moves import rings_of, sequence


def place_homes(room, names):
    """Let names stand where they stand at the beginning of each block."""
    for name in names:
        word, number = room.plan.homes[name]
        if word == "reg":
            room.put(name, number)
        else:
            room.keep(name, number)


def place_zeros(room, names, taken):
    """Let names that have 0 stand in registers that are not taken, which have 0, too, or in cells."""
    zeros = []
    for name in names:
        empty = room.empty(taken)
        if room.plan.homes.get(name, ("", -1))[0] == "cell":
            room.keep(name, room.plan.homes[name][1])
        elif empty:
            zeros.append(room.best(name, empty))
            room.put(name, zeros[-1])
        elif zeros:
            room.put(name, zeros[0])
        else:
            room.keep(name, room.free_cell(name))


def seat_params(room, params, wanted, barred):
    """Registers for the inputs, as a dict; wanted has those that some must have, barred those that none may have."""
    found = {}
    for name in params:
        if name in wanted:
            if wanted[name] in barred or wanted[name] in list(found.values()):
                raise NoRegisters(room.label)
            found[name] = wanted[name]
    for name in params:
        if name not in wanted:
            used = list(found.values())
            free = [r for r in range(room.plan.many) if r not in barred and r not in used]
            if not free:
                raise NoRegisters(room.label)
            found[name] = room.best(name, free)
    return found


class Ending:
    """Brings names to where the end of a block reads them and the blocks behind it find them."""

    def __init__(self, room, end, behind):
        self.room = room
        self.names = reads(room.plan.machine, end)
        self.behind = behind
        # The name that each register is to hold at the end, and the register of each such name.
        self.goal = {}
        self.seats = {}

    def claim(self, name, r):
        """Let a name have a register at the end; names that stand in one register now may share one then."""
        room = self.room
        holder = self.goal.setdefault(r, name)
        if holder != name and room.seat.get(holder, -1) != room.seat.get(name, -1):
            raise NoRegisters(room.label)
        self.seats[name] = r

    def seat_for(self, name):
        """A register for a name that the end reads: where it stands if that may be."""
        room = self.room
        q = room.seat[name]
        if q not in self.goal or room.seat.get(self.goal[q], -1) == q:
            return q
        rest = [r for r in range(room.plan.many) if r not in self.goal]
        if not rest:
            raise NoRegisters(room.label)
        empty = [r for r in rest if not room.held[r]]
        return empty[0] if empty else rest[0]

    def aim(self):
        """Choose the registers at the end."""
        plan = self.room.plan
        for name in self.behind:
            if plan.homes[name][0] == "reg":
                self.claim(name, plan.homes[name][1])
        for name in self.names:
            if name in plan.fixed:
                self.claim(name, plan.fixed[name])
        for name in self.names:
            if name not in self.seats:
                self.claim(name, self.seat_for(name))

    def pairs(self):
        """The registers at the end, each with the one in which its name stands now, if it stands in one."""
        return [(r, self.room.seat[self.goal[r]]) for r in self.goal if self.goal[r] in self.room.seat]

    def order_moves(self):
        """Write the moves between registers; a ring without a register to spare goes by way of a cell."""
        room = self.room
        used = [s for _, s in self.pairs()]
        spares = [r for r in range(room.plan.many) if r not in self.goal and r not in used]
        if not spares:
            for ring in rings_of(self.pairs()):
                name = self.goal[ring[0][0]]
                room.save(name)
                room.leave(name)
        room.rows.extend(sequence(tuple(self.pairs()), spares[0] if spares else -1))

    def settle(self):
        """Write what brings all names to their places."""
        room = self.room
        room.bring(self.names)
        self.aim()
        for name in self.behind:
            if room.plan.homes[name][0] == "cell":
                room.save(name)
        self.order_moves()
        for r in self.goal:
            if self.goal[r] not in room.seat:
                room.rows.append(("fill", r, room.kept[self.goal[r]]))
