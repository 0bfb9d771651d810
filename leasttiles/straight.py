"""Expressions without loads as rows of steps, in which equal parts stand once."""

from leasttiles.words import compute


class Straight:
    """The parts of expressions, each with a number and behind its own parts."""

    def __init__(self, width):
        self.width = width
        self.rows = []
        self.known = {}

    def put(self, e):
        """The number of an expression, which is put behind what is there."""
        row = e if e[0] in ("int", "var") else (e[0], *[self.put(part) for part in e[1:]])
        if row not in self.known:
            self.known[row] = len(self.rows)
            self.rows.append(row)
        return self.known[row]

    def values_for(self, words):
        """The words of all parts for the words of the variables from 0 on."""
        found = []
        for row in self.rows:
            if row[0] == "int":
                found.append(row[1])
            elif row[0] == "var":
                found.append(words[row[1]])
            else:
                found.append(compute(row[0], self.width, found[row[1]], found[row[-1]]))
        return found
