"""Where names stand at the beginnings of blocks, each at one place for all of them."""

from leasttiles.errors import NoRegisters


def _together(table, names):
    """Note in a dict of dicts that each two of some names are there together."""
    for name in names:
        mine = table.setdefault(name, {})
        for other in names:
            if other != name:
                mine[other] = True


class Homes:
    """Chooses registers and frame cells for the names that are live at the beginnings of blocks."""

    def __init__(self, machine, life, fixed):
        self.machine = machine
        self.life = life
        self.fixed = fixed
        self.places = {}
        self.behind = {label: life.live_behind(label) for label in life.labels}
        # The names of one block may not share a place there; nor, at an end that leads to several blocks, may theirs.
        self.apart = {}
        for label in life.labels[1:]:
            _together(self.apart, life.live[label])
        for label in life.labels:
            _together(self.apart, self.behind[label])
        self.alive = {name: dict(self.apart[name]) for name in self.apart}
        self.note_alive()
        self.barred = {}
        self.note_barred()

    def enters_again(self):
        """Whether some end leads to the entry."""
        return any(self.life.labels[0] in self.life.targets[label] for label in self.life.labels)

    def note_alive(self):
        """Note which names are live somewhere together; these share no frame cell, even if they never differ there."""
        for label in self.life.labels:
            for d, _, live in self.life.givings(label):
                if d in self.alive:
                    for name in live:
                        self.note_pair(d, name)
        first = [*self.life.params, *self.life.live[self.life.labels[0]]]
        for name in first:
            for other in first:
                self.note_pair(name, other)

    def note_pair(self, name, other):
        """Note that two names are live together, if both have places."""
        if name != other and name in self.alive and other in self.alive:
            self.alive[name][other] = True
            self.alive[other][name] = True

    def note_barred(self):
        """Note which registers the tied operands of ends take from the names live behind."""
        for label in self.life.labels:
            for tied in self.life.steps[label][-1][0]:
                for name in self.behind[label]:
                    if tied in self.fixed:
                        self.barred.setdefault(name, {})[self.fixed[tied]] = True

    def counts(self):
        """How often each name is read or given."""
        found = {}
        for label in self.life.labels:
            for names, d, _ in self.life.steps[label]:
                for name in [*names, d]:
                    found[name] = found.get(name, 0) + 1
        return found

    def label_of(self, name):
        """The label of a block at whose beginning a name is live."""
        return [label for label in self.life.labels if name in self.life.live[label]][0]

    def seated(self, names, name):
        """Those of some names that have registers, with the name for which this is asked."""
        return [one for one in names if one == name or self.places.get(one, ("", 0))[0] == "reg"]

    def has_seat(self, name):
        """Whether a register is left for a name at the blocks' ends, which read others, and beside the inputs."""
        groups = [(self.behind[label], self.life.steps[label][-1][0]) for label in self.life.labels]
        if self.enters_again():
            groups.append((self.life.live[self.life.labels[0]], self.life.params))
        for names, read in groups:
            found = self.seated(names, name)
            more = [one for one in read if one not in found]
            if name in names and len(found) + len(more) > self.machine[1]:
                return False
        return True

    def free_registers(self, name):
        """The registers that a name may have, those that no name is fixed to first."""
        others = [self.places[other] for other in self.apart[name] if other in self.places]
        wanted = [self.fixed[one] for one in self.fixed]
        barred = self.barred.get(name, {})
        found = [r for r in range(self.machine[1]) if ("reg", r) not in others and r not in barred]
        return [*[r for r in found if r not in wanted], *[r for r in found if r in wanted]]

    def free_cells(self, name):
        """The frame cells that a name may have."""
        others = [self.places[other] for other in self.alive[name] if other in self.places]
        return [cell for cell in range(self.machine[2]) if ("cell", cell) not in others]

    def place_fixed(self, name):
        """Give a fixed name its register."""
        place = ("reg", self.fixed[name])
        if place in [self.places[other] for other in self.apart[name] if other in self.places]:
            raise NoRegisters(self.label_of(name))
        self.places[name] = place

    def place_free(self, name, may_be_cell):
        """Give a name a register, or else a frame cell if that may be."""
        found = self.free_registers(name) if self.has_seat(name) or not may_be_cell else []
        cells = self.free_cells(name) if may_be_cell else []
        if found:
            self.places[name] = ("reg", found[0])
        elif cells:
            self.places[name] = ("cell", cells[0])
        else:
            raise NoRegisters(self.label_of(name))

    def choose(self):
        """The places of all names that need one, as a dict; those that stand in the code most often choose first."""
        counts = self.counts()
        # Where an end leads to the entry, the inputs that are live there stand in registers.
        again = self.enters_again()
        bound = [name for name in self.life.params if again and name in self.life.live[self.life.labels[0]]]
        rest = []
        for name in self.apart:
            if name in self.fixed:
                self.place_fixed(name)
            else:
                rest.append((name not in bound, -counts[name], name))
        for free, _, name in sorted(rest):
            self.place_free(name, free)
        return self.places
