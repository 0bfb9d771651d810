"""Covers of trees by rules, and those of least cost."""

from leasttiles.plain import is_row, is_within
from leasttiles.trees import Tree, item_tree, least_costs, total_cost


def holes(machine, k, tree):
    """The holes of rule k at a tree, pairs of a word and an expression, or None if it does not fit."""
    numbered = Tree(tree)
    pairs = numbered.fitted(machine[0], machine[4][k][2], 0)
    if pairs is None:
        return None
    return tuple([(word, numbered.rows[number]) for word, number in pairs])


def _top_of_cover(machine, numbered, number, result, value):
    """The cost of the rule at the top of any plain value as a cover of a part, and the covers within.

    These are triples of a part's number, a result and a value. None if the value is no cover at its top.
    """
    if not is_row(value, 2):
        return None
    part = numbered.rows[number]
    if value[0] == "var":
        fits = result == "reg" and part[0] == "var" and is_within(value[1], part[1], part[1])
        return (0, []) if fits else None
    k, inner = value
    rules = machine[4]
    if not is_within(k, 0, len(rules) - 1) or rules[k][1] != result:
        return None
    pairs = numbered.fitted(machine[0], rules[k][2], number)
    if pairs is None or not is_row(inner, len(pairs)):
        return None
    return (rules[k][3], [(below, word, more) for (word, below), more in zip(pairs, inner)])


def cover_cost(machine, tree, result, value):
    """The cost of any plain value as a cover of a tree for a result, or None if it is none.

    Rules with a pattern of one leaf let covers nest without a limit, so no function calls itself for them.
    """
    numbered = Tree(tree)
    cost = 0
    waiting = [(0, result, value)]
    while waiting:
        number, word, here = waiting.pop()
        found = _top_of_cover(machine, numbered, number, word, here)
        if found is None:
            return None
        cost += found[0]
        waiting.extend(found[1])
    return cost


def _part_covers(machine, numbered, number, costs, covers):
    """Put the covers of least cost of a part into covers, which has those of the parts behind it."""
    rules = machine[4]
    mine = covers[number]
    part = numbered.rows[number]
    rows = numbered.fitting(machine, number)
    # A rule with a pattern of one leaf needs a cover of the same part, which costs less and so stands there already.
    for cost, result in sorted([(costs[number][word], word) for word in costs[number]]):
        if part[0] == "var" and result == "reg":
            mine[result] = part
            continue
        for k, pairs in rows:
            if rules[k][1] == result and total_cost(rules[k][3], pairs, costs) == cost:
                mine[result] = (k, tuple([covers[below][word] for word, below in pairs]))
                break


def least_cover(machine, tree, result):
    """The cost and the cover of least cost of a tree for a result, or None if there is none."""
    numbered = Tree(tree)
    costs = least_costs(machine, numbered)
    if result not in costs[0]:
        return None
    covers = [{} for _ in numbered.rows]
    for number in range(len(covers) - 1, -1, -1):
        _part_covers(machine, numbered, number, costs, covers)
    return (costs[0][result], covers[0][result])


def _has_cover(machine, item):
    """Whether the tree of a statement or end has a cover."""
    found = item_tree(item)
    if found is None:
        return True
    tree, result = found
    return result in least_costs(machine, Tree(tree))[0]


def uncovered(machine, function):
    """The pairs of a label and an index, -1 for the end, of what has no cover, ascending."""
    found = []
    for label, body, end in function[2]:
        if not _has_cover(machine, end):
            found.append((label, -1))
        for index, item in enumerate(body):
            if not _has_cover(machine, item):
                found.append((label, index))
    return sorted(found)
