"""Trees with numbered parts, how patterns fit them, and the least costs of their covers."""

from leasttiles.machines import fits_imm
from leasttiles.rules import TOPS


def own_parts(tree):
    """The items of a tree that are expressions."""
    return () if tree[0] in ("int", "var") else tree[1:]


def leaf_parts(pattern, tree):
    """The leaves of a pattern that fits a tree, from the left, each with the part that stands there."""
    if pattern[0] in ("reg", "imm", "nt"):
        return [(pattern, tree)]
    return [pair for inner, part in zip(pattern[1:], tree[1:]) for pair in leaf_parts(inner, part)]


class Tree:
    """The parts of a tree, numbered from 0, each ahead of its own parts."""

    def __init__(self, tree):
        self.rows = []
        waiting = [tree]
        while waiting:
            part = waiting.pop()
            self.rows.append(part)
            waiting.extend(own_parts(part)[::-1])
        self.below = [()] * len(self.rows)
        self.number_parts()

    def number_parts(self):
        """Note for each part the numbers of its own parts."""
        sizes = [1] * len(self.rows)
        for number in range(len(self.rows) - 1, -1, -1):
            mine = []
            behind = number + 1
            for _ in own_parts(self.rows[number]):
                mine.append(behind)
                behind += sizes[behind]
            sizes[number] = behind - number
            self.below[number] = tuple(mine)

    def fitted(self, width, pattern, number):
        """The holes of a pattern at a part, pairs of a word and a part's number, or None if it does not fit."""
        part = self.rows[number]
        if pattern[0] == "imm":
            fits = part[0] == "int" and fits_imm(width, part[1], pattern[1], pattern[2]) is not None
            return [] if fits else None
        if pattern[0] in ("reg", "nt"):
            return None if part[0] in TOPS else [(pattern[-1], number)]
        if part[0] != pattern[0]:
            return None
        found = []
        for inner, below in zip(pattern[1:], self.below[number]):
            more = self.fitted(width, inner, below)
            if more is None:
                return None
            found.extend(more)
        return found

    def fitting(self, machine, number):
        """The rules that fit at a part: pairs of a rule's number and its holes."""
        found = []
        for k, rule in enumerate(machine[4]):
            pairs = self.fitted(machine[0], rule[2], number)
            if pairs is not None:
                found.append((k, pairs))
        return found


def total_cost(cost, pairs, costs):
    """A rule's cost and the numbers of its holes together, or None if a hole has none.

    costs has for each part a dict from results to numbers.
    """
    total = cost
    for word, number in pairs:
        if word not in costs[number]:
            return None
        total += costs[number][word]
    return total


def _part_costs(machine, tree, number, costs):
    """Put the least costs of a part into costs, which has those of the parts behind it."""
    rules = machine[4]
    mine = costs[number]
    if tree.rows[number][0] == "var":
        mine["reg"] = 0
    rows = tree.fitting(machine, number)
    changed = True
    # A rule whose pattern is one leaf leads to this part again, so one pass is not enough.
    while changed:
        changed = False
        for k, pairs in rows:
            total = total_cost(rules[k][3], pairs, costs)
            result = rules[k][1]
            if total is not None and (result not in mine or total < mine[result]):
                mine[result] = total
                changed = True


def least_costs(machine, tree):
    """For each part of a Tree a dict from the results that have a cover to their least costs."""
    costs = [{} for _ in tree.rows]
    for number in range(len(tree.rows) - 1, -1, -1):
        _part_costs(machine, tree, number, costs)
    return costs


def item_tree(item):
    """The tree of a statement or end and the result that it must have, or None for go."""
    if item[0] == "go":
        return None
    if item[0] == "set":
        return (item[2], "reg")
    if item[0] == "if":
        return (("branch", item[1]), "")
    return (item, "")
