"""Columns: the words that a value has for all tuples of inputs, numbered, and ops on them."""

from leasttiles.words import compute, top


class Columns:
    """Columns of words, one for each of the rows; equal ones have one number, and no op is worked out twice."""

    def __init__(self, width, rows):
        self.width = width
        self.rows = rows
        self.columns = []
        self.known = {}
        self.applied = {}

    def copied(self):
        """Columns with the same numbers; what is put there does not come here."""
        other = Columns(self.width, self.rows)
        other.columns = list(self.columns)
        other.known = {column: number for column, number in self.known.items()}
        other.applied = {key: number for key, number in self.applied.items()}
        return other

    def keep(self, column):
        """The number of a column."""
        if column not in self.known:
            self.known[column] = len(self.columns)
            self.columns.append(column)
        return self.known[column]

    def constant(self, word):
        """The number of the column that has one word."""
        return self.keep((word & top(self.width),) * len(self.rows))

    def given(self, v):
        """The number of the column of an input."""
        return self.keep(tuple([words[v] for words in self.rows]))

    def apply(self, op, parts):
        """The number of the column of an op on a tuple of columns."""
        key = (op, *parts)
        if key not in self.applied:
            first, second = self.columns[parts[0]], self.columns[parts[-1]]
            self.applied[key] = self.keep(tuple([compute(op, self.width, x, y) for x, y in zip(first, second)]))
        return self.applied[key]

    def of_expression(self, e):
        """The number of the column of an expression."""
        if e[0] == "int":
            return self.constant(e[1])
        if e[0] == "var":
            return self.given(e[1])
        return self.apply(e[0], tuple([self.of_expression(part) for part in e[1:]]))
