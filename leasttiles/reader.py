"""Lines of text and their tokens."""

from leasttiles.errors import TextError
from leasttiles.plain import DIGITS, LETTERS

MOST_DIGITS = 6


def _token_size(text, at):
    """How many characters the token has that begins there."""
    behind = at
    while behind < len(text) and text[behind] in LETTERS + DIGITS:
        behind += 1
    if behind > at:
        return behind - at
    return 2 if text[at:at + 2] in ("<<", ">>") else 1


def _tokens_of(text):
    """The tokens of a line up to its remark, each with its place."""
    found = []
    at = 0
    while at < len(text) and text[at] != "#":
        size = _token_size(text, at)
        if text[at] != " ":
            found.append((text[at:at + size], at))
        at += size
    return found


def number_of(word):
    """The number that a word writes, or None."""
    if not 1 <= len(word) <= MOST_DIGITS or not all(sign in DIGITS for sign in word):
        return None
    return int(word) if word[0] != "0" or word == "0" else None


class Line:
    """The tokens of one line, taken from the left."""

    def __init__(self, number, text):
        self.where = number
        self.tokens = _tokens_of(text)
        self.at = 0

    def peek(self):
        """The next token, or "" behind the last one."""
        return self.tokens[self.at][0] if self.at < len(self.tokens) else ""

    def take(self):
        """The next token, which is passed by it."""
        token = self.peek()
        self.at += 1
        return token

    def need(self, token):
        """Pass a token that must stand next."""
        if self.take() != token:
            raise TextError(self.where)

    def take_number(self):
        """The number that must stand next."""
        number = number_of(self.take())
        if number is None:
            raise TextError(self.where)
        return number

    def take_signed(self):
        """The number that must stand next, perhaps with a minus straight ahead of it."""
        if self.peek() != "-":
            return self.take_number()
        minus = self.tokens[self.at][1]
        self.at += 1
        number = self.take_number()
        if self.tokens[self.at - 1][1] != minus + 1:
            raise TextError(self.where)
        return -number

    def take_name(self):
        """The word that must stand next and begins with a letter."""
        token = self.take()
        if token == "" or token[0] not in LETTERS:
            raise TextError(self.where)
        return token

    def close(self):
        """See that no token is left."""
        if self.at < len(self.tokens):
            raise TextError(self.where)


class Lines:
    """The lines of a text that have tokens, taken from the first one on."""

    def __init__(self, text):
        pieces = text.split("\n")
        if pieces[-1] == "":
            pieces.pop()
        lines = [Line(number, piece) for number, piece in enumerate(pieces, start=1)]
        self.many = len(pieces)
        self.rows = [line for line in lines if line.tokens]
        self.at = 0

    def more(self):
        """Whether a line is left."""
        return self.at < len(self.rows)

    def take_line(self):
        """The next line, which must be there."""
        if not self.more():
            raise TextError(self.many + 1)
        self.at += 1
        return self.rows[self.at - 1]

    def take_header(self, word):
        """The next line if it begins with a word, which is passed."""
        line = self.take_line()
        line.need(word)
        return line
