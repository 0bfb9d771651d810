"""Orders of instructions: cycles that keep all dependences."""

from heapq import heappop, heappush

from leasttiles.depend import depends, latency_of, unit_of
from leasttiles.plain import is_row


class Bounds:
    """What an order of a row has to keep."""

    def __init__(self, machine, rows):
        self.many = len(rows)
        self.units = [unit_of(machine, row) for row in rows]
        self.above = [[] for _ in rows]
        self.below = [[] for _ in rows]
        for i, j, distance in depends(machine, rows):
            self.above[j].append((i, distance))
            self.below[i].append((j, distance))
        # Those that depend on an instruction stand behind it, so the reaches are found from the last one on.
        self.reach = [latency_of(machine, row) for row in rows]
        for i in range(self.many - 1, -1, -1):
            self.reach[i] = max([self.reach[i], *[distance + self.reach[j] for j, distance in self.below[i]]])


def is_schedule(machine, rows, cycles):
    """Whether any plain value is a right schedule of a row of instructions."""
    if not is_row(cycles, len(rows)) or not all(type(cycle) is int and cycle >= 0 for cycle in cycles):
        return False
    places = [(unit_of(machine, row), cycle) for row, cycle in zip(rows, cycles)]
    if len(set(places)) < len(places):
        return False
    return all(cycles[j] >= cycles[i] + distance for i, j, distance in depends(machine, rows))


def schedule_length(machine, rows, cycles):
    """The greatest sum of a cycle and its instruction's latency, 0 for no instruction."""
    return max([cycle + latency_of(machine, row) for row, cycle in zip(rows, cycles)], default=0)


class Lister:
    """Places instructions cycle by cycle, those of the greatest reach first."""

    def __init__(self, bounds):
        self.bounds = bounds
        self.cycles = [0] * bounds.many
        self.waits = [len(above) for above in bounds.above]
        # Of those whose dependences are all placed, coming has the first cycles that they allow, ready by unit those
        # that the cycle has come to.
        self.coming = []
        self.order = sorted(set(bounds.units))
        self.ready = {unit: [] for unit in self.order}
        for j in range(bounds.many):
            if self.waits[j] == 0:
                heappush(self.coming, (0, j))

    def place(self, i, cycle):
        """Place an instruction, which may let others come."""
        self.cycles[i] = cycle
        for j, distance in self.bounds.below[i]:
            self.cycles[j] = max(self.cycles[j], cycle + distance)
            self.waits[j] -= 1
            if self.waits[j] == 0:
                heappush(self.coming, (self.cycles[j], j))

    def fill_cycle(self, cycle):
        """Place what stands in a cycle; how many instructions these are."""
        while self.coming and self.coming[0][0] <= cycle:
            _, j = heappop(self.coming)
            heappush(self.ready[self.bounds.units[j]], (-self.bounds.reach[j], j))
        count = 0
        for unit in self.order:
            if self.ready[unit]:
                _, i = heappop(self.ready[unit])
                self.place(i, cycle)
                count += 1
        return count


def list_schedule(machine, rows):
    """The schedule that takes, cycle by cycle and for each unit, the instruction with the greatest reach."""
    lister = Lister(Bounds(machine, rows))
    left = len(rows)
    cycle = 0
    while left > 0:
        left -= lister.fill_cycle(cycle)
        cycle += 1
    return tuple(lister.cycles)


def _first_free(taken, cycle):
    """The first cycle from one on that is not taken."""
    while cycle in taken:
        cycle += 1
    return cycle


class Search:
    """Looks whether some instructions, placed already, leave room for the others."""

    def __init__(self, bounds):
        self.bounds = bounds

    def taken(self, placed, unit):
        """The cycles in which placed instructions have a unit, as a dict."""
        return {placed[j]: True for j in placed if self.bounds.units[j] == unit}

    def first_cycles(self, placed):
        """The first cycle of each instruction that the dependences allow; placed ones have theirs."""
        found = []
        for j in range(self.bounds.many):
            allowed = max([found[i] + distance for i, distance in self.bounds.above[j]], default=0)
            found.append(placed.get(j, allowed))
        return found

    def has_cycles(self, placed, first, length):
        """Whether each unit alone has cycles for its instructions, which says less than that all fit together.

        What has to stand early takes the first cycle that is left to it ahead of what may stand late.
        """
        last_cycles = [length - reach for reach in self.bounds.reach]
        if any(cycle > last for cycle, last in zip(first, last_cycles)):
            return False
        for unit in sorted(set(self.bounds.units)):
            taken = self.taken(placed, unit)
            left = [j for j in range(self.bounds.many) if j not in placed and self.bounds.units[j] == unit]
            for last, j in sorted([(last_cycles[j], j) for j in left]):
                cycle = _first_free(taken, first[j])
                if cycle > last:
                    return False
                taken[cycle] = True
        return True

    def fits(self, placed, length, since=(-1, -1)):
        """Whether a right schedule of at most a length has these cycles; placed is a dict from places to cycles.

        The others are placed one after the other, by their cycles and places from since on, each in the first cycle
        that is left to it: if any schedule is right, then one that leaves no such cycle free is.
        """
        if len(placed) == self.bounds.many:
            return True
        first = self.first_cycles(placed)
        if not self.has_cycles(placed, first, length):
            return False
        for j in range(self.bounds.many):
            if j in placed or any(i not in placed for i, _ in self.bounds.above[j]):
                continue
            cycle = _first_free(self.taken(placed, self.bounds.units[j]), first[j])
            if (cycle, j) > since and self.fits({**placed, j: cycle}, length, (cycle, j)):
                return True
        return False


def least_schedule(machine, rows):
    """The least tuple among the right schedules of least length, for at most 8 instructions."""
    bounds = Bounds(machine, rows)
    search = Search(bounds)
    length = max(bounds.reach, default=0)
    while not search.fits({}, length):
        length += 1
    placed = {}
    for j in range(bounds.many):
        taken = search.taken(placed, bounds.units[j])
        cycle = _first_free(taken, search.first_cycles(placed)[j])
        while not search.fits({**placed, j: cycle}, length):
            cycle = _first_free(taken, cycle + 1)
        placed[j] = cycle
    return tuple([placed[j] for j in range(bounds.many)])


def in_order(rows, cycles):
    """The instructions by their cycles, those of one cycle by their places."""
    return [rows[place] for _, place in sorted([(cycle, place) for place, cycle in enumerate(cycles)])]
