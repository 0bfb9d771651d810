"""Plain values as bytes."""

from leasttiles.errors import PackError
from leasttiles.plain import DIGITS, LETTERS

MOST_DEEP = 60

# The first bytes of values; None, False and True are their numbers in this row.
SHORT = (None, False, True)
UPWARD = 3
BELOW = 4
TEXT = 5
ROW = 6


def _put_size(found, n):
    """Write a number from 0 on, the lowest of its digits first."""
    while n > 127:
        found.append(n & 127 | 128)
        n >>= 7
    found.append(n)


def _put_short(found, value):
    """Write a value that is no tuple."""
    if value is None or value is False or value is True:
        found.append(SHORT.index(value))
    elif type(value) is int:
        found.append(UPWARD if value >= 0 else BELOW)
        _put_size(found, value if value >= 0 else -1 - value)
    elif type(value) is str and all(sign in LETTERS + DIGITS for sign in value):
        found.append(TEXT)
        _put_size(found, len(value))
        found.extend([(LETTERS + DIGITS).index(sign) for sign in value])
    else:
        raise PackError(-1)


def pack(value):
    """The bytes of a plain value, as a list."""
    found = []
    waiting = [(value, 1)]
    while waiting:
        part, deep = waiting.pop()
        if type(part) is not tuple:
            _put_short(found, part)
            continue
        if deep > MOST_DEEP:
            raise PackError(-1)
        found.append(ROW)
        _put_size(found, len(part))
        waiting.extend([(item, deep + 1) for item in part[::-1]])
    return found


class Source:
    """Bytes that are read from the first one on."""

    def __init__(self, data):
        self.data = data
        self.at = 0

    def take(self, limit):
        """The next byte, which must be less than a limit."""
        if self.at >= len(self.data):
            raise PackError(len(self.data))
        byte = self.data[self.at]
        if byte >= limit:
            raise PackError(self.at)
        self.at += 1
        return byte

    def take_size(self):
        """The next number, which must have no needless digit."""
        total = 0
        shift = 0
        digit = 128
        while digit > 127:
            digit = self.take(256)
            total += (digit & 127) << shift
            shift += 7
        if digit == 0 and shift > 7:
            raise PackError(self.at - 1)
        return total

    def take_short(self, first):
        """The next value, which is no tuple and begins with a byte that has been read."""
        if first < UPWARD:
            return SHORT[first]
        n = self.take_size()
        if first == TEXT:
            signs = LETTERS + DIGITS
            return "".join([signs[self.take(len(signs))] for _ in range(n)])
        return n if first == UPWARD else -1 - n

    def close(self):
        """See that no byte is left."""
        if self.at < len(self.data):
            raise PackError(self.at)


def unpack(data):
    """The value that bytes stand for."""
    source = Source(data)
    # The tuples that have begun: how many items they have, and those that are there.
    rows = []
    while True:
        first = source.take(ROW if len(rows) == MOST_DEEP else ROW + 1)
        if first == ROW:
            rows.append((source.take_size(), []))
        elif rows:
            rows[-1][1].append(source.take_short(first))
        else:
            value = source.take_short(first)
            source.close()
            return value
        while len(rows[-1][1]) == rows[-1][0]:
            whole = tuple(rows.pop()[1])
            if not rows:
                source.close()
                return whole
            rows[-1][1].append(whole)
