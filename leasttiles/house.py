"""A function and its code for a machine, which may be changed for another one."""

from leasttiles.backend import build, runs_alike, trim
from leasttiles.coderun import run_code
from leasttiles.codes import cost_of, tile_of
from leasttiles.listing import show_code


def _made(machine, function):
    """The trimmed code of a function and its certificate."""
    code, certificate = build(machine, function)
    return (trim(machine, function, code, certificate), certificate)


def _rule_counts(machine, code):
    """How often tiles of the code name each rule, by the names of the rules."""
    found = {}
    pairs = [tile_of(item) for _, rows, end in code[1] for item in [*rows, end]]
    waiting = [pair[0] for pair in pairs if pair is not None]
    while waiting:
        k, tiles = waiting.pop()
        name = machine[4][k][0]
        found[name] = found.get(name, 0) + 1
        waiting.extend(tiles)
    return found


class House:
    """A function with its code and certificate for a machine."""

    def __init__(self, machine, function):
        self.function = function
        self.machine = machine
        self.made = _made(machine, function)

    def code(self):
        """The code, trimmed."""
        return self.made[0]

    def certificate(self):
        """The certificate with which check takes the code."""
        return self.made[1]

    def cost(self):
        """What the code costs."""
        return cost_of(self.machine, self.made[0])

    def run(self, inputs, *, fuel):
        """The run of the code."""
        return run_code(self.machine, self.made[0], inputs, fuel=fuel)

    def same(self, inputs, *, fuel):
        """Whether the run of the code is that of the function."""
        return runs_alike(self.machine, self.function, self.made[0], inputs, fuel)

    def listing(self):
        """The code as text."""
        return show_code(self.machine, self.made[0])

    def change(self, machine):
        """Build anew for another machine of the same width; if that raises, nothing is changed."""
        made = _made(machine, self.function)
        self.machine = machine
        self.made = made

    def report(self):
        """A text of how many blocks, instructions and rules there are, and what they cost."""
        blocks = self.made[0][1]
        counts = _rule_counts(self.machine, self.made[0])
        rows = [("blocks", len(blocks)), ("instructions", sum([len(items) for _, items, _ in blocks]))]
        rows.append(("cost", self.cost()))
        rows.extend([(name, counts[name]) for name in sorted(counts)])
        return "".join([f"{name} {number}\n" for name, number in rows])
