"""Tables of costs that tell that no cover is cheaper."""

from leasttiles.plain import is_row
from leasttiles.trees import Tree, least_costs, total_cost


def parts(tree):
    """The parts of a tree: itself, then the parts of its items that are expressions."""
    return tuple(Tree(tree).rows)


def _has_row_form(value):
    """Whether any plain value is a tuple of pairs of a word and a number from 0, the words ascending."""
    if type(value) is not tuple:
        return False
    last = None
    for pair in value:
        if not is_row(pair, 2) or type(pair[0]) is not str or type(pair[1]) is not int or pair[1] < 0:
            return False
        if last is not None and pair[0] <= last:
            return False
        last = pair[0]
    return True


def _bounds_part(machine, numbered, number, costs):
    """Whether the numbers of a part are small enough, and all there, as its rules ask."""
    mine = costs[number]
    if numbered.rows[number][0] == "var" and mine.get("reg") != 0:
        return False
    for k, pairs in numbered.fitting(machine, number):
        _, result, _, cost, _, _, _ = machine[4][k]
        total = total_cost(cost, pairs, costs)
        if total is not None and (result not in mine or mine[result] > total):
            return False
    return True


def check_costs(machine, tree, value):
    """Whether any plain value is a cost table that bounds the tree."""
    numbered = Tree(tree)
    many = len(numbered.rows)
    if not is_row(value, many) or not all(_has_row_form(row) for row in value):
        return False
    costs = [{word: number for word, number in row} for row in value]
    return all(_bounds_part(machine, numbered, at, costs) for at in range(many))


def cost_table(machine, tree):
    """The table of the least costs of all covers of each part of a tree."""
    costs = least_costs(machine, Tree(tree))
    return tuple([tuple(sorted([(word, mine[word]) for word in mine])) for mine in costs])
