"""Leaving out instructions of a block that it does not need."""

from heapq import heappop, heappush

from leasttiles.deeds import rows_of
from leasttiles.depend import gives, needs


class Step:
    """An instruction or end, with the terms of the places that it reads and gives ahead of it, and its outcome."""

    def __init__(self, machine, item, nodes, done):
        self.item = item
        self.nodes = nodes
        self.reads = needs(machine, item)
        self.gives = gives(item)
        self.stores = list(done.stores)
        self.ahead = {place: done.value(place) for place in [*self.reads, *self.gives]}
        self.terms = done.outcome(item, nodes)
        # Where in the block the next step is that reads or gives a place of this one.
        self.links = {}
        self.gone = False


class Trimmer:
    """A block of code that does its duty, and goes on to do it with fewer and fewer instructions."""

    def __init__(self, machine, duty, block):
        self.duty = duty
        self.claimed = {place: True for _, place in duty.claims_behind()}
        self.probe = duty.begin()
        self.row = []
        rows = rows_of(machine, block)
        done = duty.begin()
        for item, nodes in rows[:-1]:
            self.row.append(Step(machine, item, nodes, done))
            done.do_row(item, nodes)
        self.row.append(Step(machine, block[2], rows[-1][1], done))
        self.link_steps()

    def link_steps(self):
        """Let each step know where its places are read or given next."""
        behind = {}
        for at in range(len(self.row) - 1, -1, -1):
            step = self.row[at]
            step.links = {place: behind[place] for place in step.ahead if place in behind}
            for place in step.ahead:
                behind[place] = at

    def outcome_over(self, step, ahead):
        """The outcome of a step if other terms stand in the places ahead of it."""
        probe = self.probe
        probe.values_now = ahead
        probe.stores = step.stores
        return probe.outcome(step.item, step.nodes)

    def pass_step(self, step, other):
        """What stands ahead of a step, and its outcome, where places in other have other terms; other is kept up.

        None if it writes, stores, tests or returns something else.
        """
        ahead = {place: other.get(place, term) for place, term in step.ahead.items()}
        terms = self.outcome_over(step, ahead) if any(place in other for place in step.reads) else step.terms
        same = self.duty.are_same(terms, step.terms)
        for place in step.gives:
            other.pop(place, None)
            if not same:
                other[place] = terms[0]
        return (step, ahead, terms) if same or step.gives != () else None

    def pass_rest(self, at, other):
        """What pass_step tells of the steps behind one that other terms touch, or None if the block fails then."""
        found = []
        queue = []
        here = at
        step = self.row[at]
        while other != {}:
            for place in step.ahead:
                if place in other and place in step.links:
                    heappush(queue, step.links[place])
                elif place in other and place in self.claimed:
                    return None
            while queue and queue[0] == here:
                heappop(queue)
            if queue == []:
                return found
            here = queue[0]
            step = self.row[here]
            if not step.gone and any(place in other for place in step.ahead):
                passed = self.pass_step(step, other)
                if passed is None:
                    return None
                found.append(passed)
        return found

    def leave_out(self, at):
        """Leave out an instruction if the block does its duty without it."""
        step = self.row[at]
        if step.gives == ():
            return
        place = step.gives[0]
        # Without it what stood there ahead of it stands there behind it, too.
        other = {} if self.duty.are_same(step.terms, [step.ahead[place]]) else {place: step.ahead[place]}
        found = self.pass_rest(at, other)
        if found is not None:
            for later, ahead, terms in found:
                later.ahead = ahead
                later.terms = terms
            step.gone = True


def trimmed_rows(machine, duty, block):
    """The instructions of a block that does its duty, without those that it does not need, the last one asked first."""
    trimmer = Trimmer(machine, duty, block)
    for at in range(len(block[1]) - 1, -1, -1):
        trimmer.leave_out(at)
    return tuple([step.item for step in trimmer.row[:-1] if not step.gone])
