"""Which names are live where, and which of them meet."""

from leasttiles.codes import changes, reads, targets_of
from leasttiles.ways import live_names


def _step(machine, item):
    """The names that an instruction or end reads, the one that it gives, and the one that it moves; -1 for none."""
    return (reads(machine, item), changes(item), item[2] if item[0] == "move" else -1)


def _reads_and_gives(steps):
    """The names that steps read before they give them, and those that they give."""
    read = {}
    given = {}
    for names, d, _ in steps:
        for name in names:
            if name not in given:
                read[name] = True
        if d != -1:
            given[d] = True
    return read, given


class Life:
    """The steps of the blocks of wide code, the ends among them, and the names live at the blocks' beginnings."""

    def __init__(self, machine, wide):
        self.params, blocks = wide
        self.labels = [block[0] for block in blocks]
        self.steps = {label: [_step(machine, item) for item in [*rows, end]] for label, rows, end in blocks}
        self.targets = {block[0]: targets_of(block[2]) for block in blocks}
        found = [(label, self.targets[label], *_reads_and_gives(self.steps[label])) for label in self.labels]
        self.live = live_names(found)

    def live_behind(self, label):
        """The names live behind the end of a block, ascending."""
        return sorted(set([name for target in self.targets[label] for name in self.live[target]]))

    def givings(self, label):
        """For each step of a block that gives a name: it, the name that it moves, and the names live behind it."""
        found = []
        live = {name: True for name in self.live_behind(label)}
        for names, d, source in self.steps[label][::-1]:
            if d != -1:
                found.append((d, source, list(live)))
                live.pop(d, None)
            for name in names:
                live[name] = True
        return found


def live_at(machine, wide):
    """For each block its label and the names live at its beginning, ascending."""
    life = Life(machine, wide)
    return [(label, tuple(sorted(life.live[label]))) for label in life.labels]


def meetings(machine, wide):
    """The pairs of names that meet, the less one first, ascending."""
    life = Life(machine, wide)
    found = {}
    for label in life.labels:
        for d, source, live in life.givings(label):
            for name in live:
                if name not in (d, source):
                    found[(min(d, name), max(d, name))] = True
    first = sorted(set([*life.params, *life.live[life.labels[0]]]))
    for at, name in enumerate(first):
        for other in first[at + 1:]:
            found[(name, other)] = True
    return sorted(found)
