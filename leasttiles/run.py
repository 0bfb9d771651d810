"""Runs of functions."""

from leasttiles.plays import Steps, finish
from leasttiles.words import CELLS, PAIRS, SINGLES, compute


class Play(Steps):
    """A run of a function as it stands between two blocks."""

    def __init__(self, function, inputs):
        Steps.__init__(self, function[2])
        self.width = function[0]
        self.words = {v: word for v, word in enumerate(inputs)}

    def enter(self):
        """Do the block to which the run has come."""
        self.steps += 1
        _, body, end = self.blocks[self.label]
        for item in body:
            self.do_item(item)
        if end[0] == "return":
            self.end = ("return", self.word_of(end[1]))
        elif end[0] == "go":
            self.label = end[1]
        else:
            self.label = end[2] if self.word_of(end[1]) != 0 else end[3]

    def do_item(self, item):
        """Do a statement."""
        if item[0] == "set":
            self.words[item[1]] = self.word_of(item[2])
        elif item[0] == "write":
            self.writes.append(self.word_of(item[1]))
        else:
            place = self.word_of(item[1]) % CELLS
            self.memory[place] = self.word_of(item[2])

    def word_of(self, e):
        """The word of an expression."""
        op = e[0]
        if op == "int":
            return e[1]
        if op == "var":
            return self.words.get(e[1], 0)
        x = self.word_of(e[1])
        if op in PAIRS:
            return compute(op, self.width, x, self.word_of(e[2]))
        if op in SINGLES:
            return compute(op, self.width, x, 0)
        return self.memory[x % CELLS]


def run(function, inputs, *, fuel):
    """The words written, the end, and the number of blocks entered."""
    return finish(Play(function, inputs), fuel)


def trace(function, inputs, *, fuel):
    """Yield the label of each block that the run enters."""
    play = Play(function, inputs)
    while play.may_enter(fuel):
        yield play.label
        play.enter()
