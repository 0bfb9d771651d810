"""The search for the sequence of least cost that has a value."""

from leasttiles.columns import Columns
from leasttiles.machines import folded, leaves, operands_value, tile_cost, tile_nodes, with_leaves
from leasttiles.rules import pattern_leaves
from leasttiles.words import words_at

# A few rows are looked at first, as most values differ from the wanted one there already: so many that stand far
# apart, and so many in which different words are wanted.
PROBES = 4


def picks(lists):
    """Yield each tuple with an item of each list, ascending if the lists are."""
    if not all(lists):
        return
    places = [0] * len(lists)
    at = 0
    while at >= 0:
        yield tuple([mine[place] for mine, place in zip(lists, places)])
        at = len(lists) - 1
        while at >= 0 and places[at] == len(lists[at]) - 1:
            places[at] = 0
            at -= 1
        if at >= 0:
            places[at] += 1


def _kinds_of(rule):
    """The kinds of operands of a rule, from left to right."""
    return [leaf[1] for leaf in pattern_leaves(rule[2]) if leaf[0] == "nt"]


def _loads(pattern):
    """Whether a pattern has a load."""
    return pattern[0] == "load" or any(type(part) is tuple and _loads(part) for part in pattern[1:])


def tiles_of(machine):
    """The tiles that may stand in sequences and nest at most 2 deep, ascending."""
    rows = [(k, rule) for k, rule in enumerate(machine[4]) if not _loads(rule[2])]
    plain = {}
    for k, rule in rows:
        if _kinds_of(rule) == []:
            plain.setdefault(rule[1], []).append((k, ()))
    found = []
    for k, rule in rows:
        if rule[1] == "reg" and rule[6] == ():
            lists = [plain.get(kind, []) for kind in _kinds_of(rule)]
            found.extend([(k, tiles) for tiles in picks(lists)])
    return found


class Option:
    """A tile that an item of a sequence may have, and the integers that its operands may be."""

    def __init__(self, machine, tile, numbers):
        self.tile = tile
        self.price = tile_cost(machine, tile)
        self.nodes = tile_nodes(machine, tile)
        self.leaves = leaves(machine, tile)
        self.numbers = []
        for leaf in self.leaves:
            self.numbers.append([] if leaf[0] == "reg" else [n for n in numbers if leaf[1] <= n <= leaf[2]])

    def operand_lists(self, count):
        """What each operand may be over so many values, ascending."""
        return [list(range(count)) if leaf[0] == "reg" else mine for leaf, mine in zip(self.leaves, self.numbers)]

    def uses(self, operands, value):
        """Whether one of the operands is the number of a value."""
        return any(leaf[0] == "reg" and operand == value for leaf, operand in zip(self.leaves, operands))

    def column_of(self, columns, operands, values):
        """The number of the column that the tile gives for operands over the columns of values."""
        below = []
        for leaf, operand in with_leaves(self.nodes, operands):
            below.append(values[operand] if leaf[0] == "reg" else columns.constant(operand))
        return folded(self.nodes, below, columns.apply)


class Hunt:
    """The search among the sequences of a machine over so many inputs."""

    def __init__(self, machine, inputs, numbers, most):
        self.width = machine[0]
        self.most = most
        many = 1 << (self.width * inputs)
        self.columns = Columns(self.width, [words_at(self.width, inputs, number) for number in range(many)])
        self.inputs = [self.columns.given(v) for v in range(inputs)]
        options = [Option(machine, tile, numbers) for tile in tiles_of(machine)]
        self.options = sorted(options, key=lambda option: (option.price, option.tile))
        self.probes = []
        self.target = -1
        self.won = None

    def aim_at(self, e):
        """Take an expression as the one whose value is looked for."""
        self.target = self.columns.of_expression(e)
        column = self.columns.columns[self.target]
        many = len(column)
        rows = {word: row for row, word in enumerate(column)}
        apart = [many - 1 - many * k // (PROBES + 1) for k in range(PROBES)]
        self.probes = [*list(rows.values())[:PROBES], *apart]

    def least_for(self, e):
        """The cost and the sequence of least cost that has an expression's value, or None.

        In such a sequence each item has a new value, which a later item uses, for else a shorter one would do.
        """
        self.aim_at(e)
        if self.most < 0:
            return None
        if self.target == self.inputs[0]:
            return (0, ())
        self.try_last(self.columns, (), self.inputs, 0, [])
        here = len(self.inputs)
        rows = self.items_behind(self.columns, self.inputs, 0)
        for option, operands, column in rows:
            self.try_last(self.columns, ((option.tile, operands),), [*self.inputs, column], option.price, [here])
        for option, operands, column in rows:
            self.try_second(option, operands, column)
        return None if self.won is None else (self.won[0], self.won[2])

    def try_second(self, first, operands, column):
        """Try each item between a first one, an option with its operands and its column, and a last one."""
        here = len(self.inputs)
        item = (first.tile, operands)
        values = [*self.inputs, column]
        columns = self.columns.copied()
        for option, more, behind in self.items_behind(columns, values, first.price):
            second = (option.tile, more)
            used = option.uses(more, here)
            # Two items that do not need one another stand in one order.
            if used or item < second:
                needed = [here + 1] if used else [here, here + 1]
                self.try_last(columns, (item, second), [*values, behind], first.price + option.price, needed)

    def items_behind(self, columns, values, cost):
        """The items that may stand behind values, ahead of a last one: options with their operands and columns.

        Of those with one column the cheapest, then least one does for all.
        """
        known = {column: True for column in values}
        found = []
        for option in self.options:
            if not self.may_win(cost + option.price, len(values) - len(self.inputs) + 2):
                break
            lists = option.operand_lists(len(values))
            for operands in picks(lists):
                column = option.column_of(columns, operands, values)
                if column not in known:
                    known[column] = True
                    found.append((option, operands, column))
        return found

    def try_last(self, columns, items, values, cost, needed):
        """Look for the least last item behind others; needed are the values that no item uses yet."""
        probes = [[columns.columns[column][row] for column in values] for row in self.probes]
        for option in self.options:
            if not self.may_win(cost + option.price, len(items) + 1):
                return
            lists = option.operand_lists(len(values))
            for operands in picks(lists):
                if all([option.uses(operands, value) for value in needed]) and self.hits(option, operands, probes):
                    if option.column_of(columns, operands, values) == self.target:
                        self.note_win(cost + option.price, (*items, (option.tile, operands)))
                        return

    def may_win(self, cost, length):
        """Whether a sequence of such a cost and length may be the one that is looked for."""
        return cost <= self.most and (self.won is None or (cost, length) <= self.won[:2])

    def hits(self, option, operands, probes):
        """Whether a tile has the wanted words in the rows of the probes, for the words that values have there."""
        target = self.columns.columns[self.target]
        for row, words in zip(self.probes, probes):
            if operands_value(self.width, option.nodes, operands, words, ()) != target[row]:
                return False
        return True

    def note_win(self, cost, sequence):
        """Keep a sequence that has the value, if it is less than the one that was found."""
        key = (cost, len(sequence), sequence)
        if self.won is None or key < self.won:
            self.won = key
