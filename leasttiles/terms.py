"""Terms for the values of a block, and which of them count as equal."""

from leasttiles.words import CELLS, compute, top

# The ops whose parts have one order; add has it, too, as a sum.
_ORDERED = ("mul", "and", "or", "xor", "equal")

# How often each part of these ops stands in the sum that it is.
_SUMS = {"add": (1, 1), "sub": (1, -1), "neg": (-1,)}


class Terms:
    """Terms of one width; a term is the number of its normal form, so terms that count as equal are one."""

    def __init__(self, width):
        self.width = width
        self.forms = []
        self.known = {}
        self.applied = {}
        self.idle = {"or": 0, "xor": 0, "shl": 0, "shr": 0, "mul": 1, "and": top(width)}

    def keep(self, form):
        """The number of a normal form, which has the numbers of its parts."""
        if form not in self.known:
            self.known[form] = len(self.forms)
            self.forms.append(form)
        return self.known[form]

    def number(self, n):
        """The term of a number."""
        return self.keep(("number", n & top(self.width)))

    def leaf(self, name):
        """The term of an unknown word with a name, any tuple."""
        return self.keep(("leaf", name))

    def load(self, address, stores):
        """The term of the word that stands at an address behind so many stores."""
        return self.keep(("load", address, stores))

    def apply(self, op, parts):
        """The term of an op on a tuple of one or two terms."""
        key = (op, *parts)
        if key not in self.applied:
            self.applied[key] = self.normal(op, parts)
        return self.applied[key]

    def normal(self, op, parts):
        """The same, worked out anew."""
        words = [self.word_of(part) for part in parts]
        if None not in words:
            return self.number(compute(op, self.width, words[0], words[-1]))
        if op in _SUMS:
            return self.sum_of(parts, _SUMS[op])
        if op == "not":
            form = self.forms[parts[0]]
            return form[1] if form[0] == "not" else self.keep((op, *parts))
        return self.pair(op, parts)

    def word_of(self, t):
        """The word of a term that is a number, else None."""
        form = self.forms[t]
        return form[1] if form[0] == "number" else None

    def pair(self, op, parts):
        """An op on two terms that is no sum, and that are not both numbers."""
        x, y = parts
        if op in _ORDERED and (self.word_of(x) is not None or (self.word_of(y) is None and y < x)):
            x, y = y, x
        word = self.word_of(y)
        if word is not None and self.idle.get(op) == word:
            return x
        if word == 0 and op in ("mul", "and"):
            return y
        return self.keep((op, x, y))

    def as_sum(self, t):
        """A term as a sum: a number, and pairs of a term and how often it stands there."""
        form = self.forms[t]
        if form[0] == "sum":
            return form[1:]
        return (form[1], ()) if form[0] == "number" else (0, ((t, 1),))

    def sum_of(self, parts, signs):
        """The sum of terms with their signs; a neg stands there as often as there are words, less one."""
        limit = top(self.width)
        number = 0
        counts = {}
        for part, sign in zip(parts, signs):
            own, pairs = self.as_sum(part)
            number = (number + sign * own) & limit
            for t, many in pairs:
                counts[t] = (counts.get(t, 0) + sign * many) & limit
        rest = tuple(sorted([(t, many) for t, many in counts.items() if many > 0]))
        if rest == ():
            return self.number(number)
        if number == 0 and len(rest) == 1 and rest[0][1] == 1:
            return rest[0][0]
        return self.keep(("sum", number, rest))

    def same(self, a, b):
        """Whether two terms count as equal."""
        return a == b

    def parts_of(self, t):
        """The terms of which a term is made."""
        form = self.forms[t]
        if form[0] in ("number", "leaf"):
            return ()
        if form[0] == "sum":
            return tuple([part for part, _ in form[2]])
        return form[1:2] if form[0] == "load" else form[1:]

    def value_of(self, t, look, loads):
        """The word of a term, for the words of leaves and those of pairs of an address and a number of stores."""
        needed = {t: True}
        waiting = [t]
        while waiting:
            for part in self.parts_of(waiting.pop()):
                if part not in needed:
                    needed[part] = True
                    waiting.append(part)
        words = {}
        # A term has a greater number than its parts.
        for here in sorted(needed):
            words[here] = self.form_value(self.forms[here], words, look, loads)
        return words[t]

    def form_value(self, form, words, look, loads):
        """The word of a normal form, for the words of its parts."""
        op = form[0]
        if op == "number":
            return form[1]
        if op == "leaf":
            return look[form[1]]
        if op == "load":
            return loads[(words[form[1]] % CELLS, form[2])]
        if op == "sum":
            return (form[1] + sum([words[part] * many for part, many in form[2]])) & top(self.width)
        return compute(op, self.width, words[form[1]], words[form[-1]])
