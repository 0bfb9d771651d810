"""The errors of the package, each with the field that tells where it is."""


class TilesError(ValueError):
    """The base of all errors of the package."""


class TextError(TilesError):
    """A text has a wrong line, counted from 1."""

    def __init__(self, line):
        TilesError.__init__(self, f"line {line} is wrong")
        self.line = line


class Uncovered(TilesError):
    """No pattern covers the part at a path, a label and an index."""

    def __init__(self, path):
        TilesError.__init__(self, f"no pattern covers {path}")
        self.path = path


class NoRegisters(TilesError):
    """Registers or frame cells do not suffice in the block with a label."""

    def __init__(self, label):
        TilesError.__init__(self, f"registers do not suffice in block {label}")
        self.label = label


class AssemblyError(TilesError):
    """The word at an address can't be made or read."""

    def __init__(self, at):
        TilesError.__init__(self, f"no word at address {at}")
        self.at = at


class PackError(TilesError):
    """A byte can't stand at an index, or a value can't be packed (-1)."""

    def __init__(self, at):
        TilesError.__init__(self, f"wrong at {at}")
        self.at = at
