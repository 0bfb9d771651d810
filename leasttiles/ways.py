"""Which names are live at the beginnings of blocks, for functions and for code."""


def live_names(rows):
    """For each label a dict of the names that some way from its block's beginning reads before it gives them.

    A row is a label, the labels of its end, and two dicts: the names that the block reads before it gives them,
    and those that it gives.
    """
    live = {label: dict(read) for label, _, read, given in rows}
    changed = True
    while changed:
        changed = False
        for label, targets, read, given in reversed(rows):
            mine = live[label]
            more = [name for target in targets for name in live[target] if name not in given and name not in mine]
            for name in more:
                mine[name] = True
                changed = True
    return live
