"""Covers and tables of costs, worked out by the plain words of the document."""

TOPS = ("write", "store", "branch", "return")


def fits(width, pattern, tree):
    """The holes of a pattern at a tree, or None."""
    if pattern[0] == "reg":
        return None if tree[0] in TOPS else [("reg", tree)]
    if pattern[0] == "nt":
        return None if tree[0] in TOPS else [(pattern[1], tree)]
    if pattern[0] == "imm":
        if tree[0] != "int":
            return None
        words = (tree[1], tree[1] - 2 ** width)
        return [] if any(pattern[1] <= word <= pattern[2] for word in words) else None
    if tree[0] != pattern[0]:
        return None
    rows = [fits(width, inner, part) for inner, part in zip(pattern[1:], tree[1:])]
    return None if None in rows else sum(rows, [])


def all_holes(machine, tree, result):
    """The pairs of a rule's number and its holes, for the rules with this result that fit."""
    found = []
    for k, rule in enumerate(machine[4]):
        pairs = fits(machine[0], rule[2], tree)
        if rule[1] == result and pairs is not None:
            found.append((k, pairs))
    return found


def least(machine, tree, result, passed=()):
    """The least cost of a cover, or None; results passed on this tree lead to it again at a higher cost."""
    if result in passed:
        return None
    costs = [0] if tree[0] == "var" and result == "reg" else []
    for k, pairs in all_holes(machine, tree, result):
        below = [least(machine, part, word, (*passed, result) if part is tree else ()) for word, part in pairs]
        if None not in below:
            costs.append(machine[4][k][3] + sum(below))
    return min(costs, default=None)


def chosen(machine, tree, result):
    """The cover of least cost that the document names."""
    if tree[0] == "var" and result == "reg":
        return tree
    cost = least(machine, tree, result)
    for k, pairs in all_holes(machine, tree, result):
        below = [least(machine, part, word) for word, part in pairs]
        if None not in below and machine[4][k][3] + sum(below) == cost:
            return (k, tuple(chosen(machine, part, word) for word, part in pairs))
    return None


def parts_of(tree):
    """The parts of a tree, in order."""
    return [tree] + [part for item in tree[1:] if isinstance(item, tuple) for part in parts_of(item)]


def bounds(machine, tree, table):
    """Whether a table of the right form bounds the tree."""
    # Equal parts at different places have rows of their own, so each part is made an object of its own.
    rows = parts_of(copied(tree))
    numbers = {id(part): dict(row) for part, row in zip(rows, table)}
    for part, row in zip(rows, table):
        if part[0] == "var" and ("reg", 0) not in row:
            return False
        for rule in machine[4]:
            pairs = fits(machine[0], rule[2], part)
            if pairs is None or any(word not in numbers[id(below)] for word, below in pairs):
                continue
            total = rule[3] + sum(numbers[id(below)][word] for word, below in pairs)
            if rule[1] not in dict(row) or dict(row)[rule[1]] > total:
                return False
    return True


def copied(tree):
    """The tree with an object of its own for each part."""
    return tuple([copied(item) if isinstance(item, tuple) else item for item in tree])
