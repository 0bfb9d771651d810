"""What stands in the registers and frame cells at a point of a block, and how names come into registers there."""

from leasttiles.errors import NoRegisters


class Plan:
    """What the blocks of one code have in common."""

    def __init__(self, machine, wide, fixed, homes):
        self.machine = machine
        self.many = machine[1]
        self.fixed = fixed
        self.homes = homes
        cells = [homes[name][1] for name in homes if homes[name][0] == "cell"]
        self.scratch = [cell for cell in range(machine[2]) if cell not in cells]
        self.likes = dict(fixed)
        for name in homes:
            if homes[name][0] == "reg":
                self.likes.setdefault(name, homes[name][1])
        for _, rows, _ in wide[1]:
            self.like_moves(rows)

    def like_moves(self, rows):
        """Let names that are moved to one another like one register."""
        moves = [row for row in rows if row[0] == "move"]
        for _, d, s in moves[::-1]:
            if d in self.likes:
                self.likes.setdefault(s, self.likes[d])
        for _, d, s in moves:
            if s in self.likes:
                self.likes.setdefault(d, self.likes[s])


class Room:
    """The registers and cells at a point of a block, and the instructions that have led there.

    A register may hold several names, which then have one word; each name stands in one register and one cell at
    most. Names that are not live stand nowhere.
    """

    def __init__(self, plan, label):
        self.plan = plan
        self.label = label
        self.rows = []
        self.held = [[] for _ in range(plan.many)]
        self.seat = {}
        self.kept = {}
        self.owner = {}
        # For each live name how far behind in the block it is read next.
        self.soon = {}
        # Registers that are better left to other names.
        self.shunned = {plan.fixed[name]: True for name in plan.fixed}

    def leave(self, name):
        """Take a name out of its register."""
        if name in self.seat:
            self.held[self.seat.pop(name)].remove(name)

    def put(self, name, r):
        """Let a name stand in a register, and in no other one."""
        self.leave(name)
        self.held[r].append(name)
        self.seat[name] = r

    def drop(self, name):
        """Take a name out of its cell."""
        if name in self.kept:
            del self.owner[self.kept.pop(name)]

    def keep(self, name, cell):
        """Let a name stand in a cell."""
        self.kept[name] = cell
        self.owner[cell] = name

    def forget(self, name):
        """Take a name out of its register and its cell."""
        self.leave(name)
        self.drop(name)

    def live_held(self, r):
        """The names that a register holds and that are live."""
        return [name for name in self.held[r] if name in self.soon]

    def read_next(self, r):
        """How far behind the word of a register that holds live names is read next."""
        return min([self.soon[name] for name in self.live_held(r)])

    def empty(self, pinned):
        """The registers that hold nothing, without the pinned ones."""
        return [r for r in range(self.plan.many) if not self.held[r] and r not in pinned]

    def best(self, name, free):
        """The register of several that suits a name best."""
        if self.plan.likes.get(name, -1) in free:
            return self.plan.likes[name]
        plain = [r for r in free if r not in self.shunned]
        return plain[0] if plain else free[0]

    def free_cell(self, name):
        """A frame cell for a name: its own one, or one that no name owns or needs."""
        place = self.plan.homes.get(name, ("", -1))
        if place[0] == "cell":
            return place[1]
        for cell in self.plan.scratch:
            if cell not in self.owner:
                return cell
        for cell in self.plan.scratch:
            if self.owner[cell] in self.seat:
                self.drop(self.owner[cell])
                return cell
        raise NoRegisters(self.label)

    def save(self, name):
        """See that a name in a register stands in a cell, too."""
        if name not in self.kept:
            cell = self.free_cell(name)
            self.rows.append(("spill", cell, self.seat[name]))
            self.keep(name, cell)

    def push_out(self, r, names, pinned):
        """Let names leave their register for another one, or else for cells."""
        free = self.empty(pinned)
        if free:
            other = self.best(names[0], free)
            self.rows.append(("move", other, r))
            for name in names:
                self.put(name, other)
            return
        for name in names:
            self.save(name)
            self.leave(name)

    def pick(self, name, pinned):
        """An empty register for a name, made empty if need be: that whose word is read last."""
        free = self.empty(pinned)
        if free:
            return self.best(name, free)
        rest = [r for r in range(self.plan.many) if r not in pinned]
        if not rest:
            raise NoRegisters(self.label)
        r = max(rest, key=self.read_next)
        self.push_out(r, list(self.held[r]), pinned)
        return r

    def fill(self, name, r):
        """Bring a name from its cell into an empty register."""
        self.rows.append(("fill", r, self.kept[name]))
        self.put(name, r)

    def bring_fixed(self, name, pinned):
        """Bring a name into the register that it is fixed to."""
        r = self.plan.fixed[name]
        if self.seat.get(name, -1) == r:
            return
        if self.held[r]:
            self.push_out(r, list(self.held[r]), pinned)
        if name not in self.seat:
            self.fill(name, r)
            return
        q = self.seat[name]
        self.rows.append(("move", r, q))
        for other in list(self.held[q]):
            if self.plan.fixed.get(other, -1) == r:
                self.put(other, r)

    def bring(self, names):
        """Bring names into registers, all at once; these registers, as a dict."""
        fixed = [name for name in names if name in self.plan.fixed]
        pinned = {self.plan.fixed[name]: True for name in fixed}
        for name in fixed:
            self.bring_fixed(name, pinned)
        if any(self.seat.get(name, -1) != self.plan.fixed[name] for name in fixed):
            raise NoRegisters(self.label)
        for name in names:
            if name in self.seat:
                pinned[self.seat[name]] = True
        for name in names:
            if name not in self.seat:
                r = self.pick(name, pinned)
                self.fill(name, r)
                pinned[r] = True
        return pinned

    def pass_by(self, after):
        """Go behind an instruction; after has for the names that it reads or gives how far they are read next."""
        for name in after:
            if after[name] is None:
                self.soon.pop(name, None)
                self.forget(name)
            else:
                self.soon[name] = after[name]
