"""Words of 1 to 16 bits and the ops on them."""

PAIRS = ("add", "sub", "mul", "and", "or", "xor", "shl", "shr", "less", "equal")
SINGLES = ("not", "neg")

# The memory of a run: addresses are taken modulo this.
CELLS = 16


def top(w):
    """The greatest word of a width."""
    return (1 << w) - 1


def _add(w, x, y):
    return (x + y) & top(w)


def _sub(w, x, y):
    return (x - y) & top(w)


def _mul(w, x, y):
    return (x * y) & top(w)


def _and(_, x, y):
    return x & y


def _or(_, x, y):
    return x | y


def _xor(_, x, y):
    return x ^ y


def _shl(w, x, y):
    # A shift by y itself would build a number of y bits, so great ones are told apart first.
    if y >= w:
        return 0
    return (x << y) & top(w)


def _shr(w, x, y):
    if y >= w:
        return 0
    return x >> y


def _less(_, x, y):
    return 1 if x < y else 0


def _equal(_, x, y):
    return 1 if x == y else 0


def _not(w, x, _):
    return x ^ top(w)


def _neg(w, x, _):
    return -x & top(w)


_ACTIONS = {
    "add": _add,
    "sub": _sub,
    "mul": _mul,
    "and": _and,
    "or": _or,
    "xor": _xor,
    "shl": _shl,
    "shr": _shr,
    "less": _less,
    "equal": _equal,
    "not": _not,
    "neg": _neg,
}


def compute(op, w, x, y):
    """The word that an op gives at a width; the ops of one part do not look at y."""
    action = _ACTIONS[op]
    return action(w, x, y)


def words_at(width, inputs, number):
    """So many words as the tuple that stands at a number among all such tuples, which are ascending."""
    return tuple([number >> (width * behind) & top(width) for behind in range(inputs - 1, -1, -1)])
