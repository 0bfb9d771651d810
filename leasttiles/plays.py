"""What runs of functions and runs of code have in common."""

from leasttiles.words import CELLS


class Steps:
    """A run as it stands between two blocks; a class below it enters them."""

    def __init__(self, blocks):
        self.blocks = {block[0]: block for block in blocks}
        self.label = blocks[0][0]
        self.memory = [0] * CELLS
        self.writes = []
        self.end = ("none",)
        self.steps = 0

    def may_enter(self, fuel):
        """Whether the run goes on with so much fuel from its beginning."""
        return self.end[0] == "none" and self.steps < fuel


def finish(play, fuel):
    """Enter blocks as far as the fuel suffices; the words written, the end, and the number of blocks entered."""
    while play.may_enter(fuel):
        play.enter()
    return (play.writes, play.end, play.steps)
