"""Code as rows of words, and back."""

from leasttiles.errors import AssemblyError
from leasttiles.forms import decode, encode


def _end_rows(end, behind):
    """The words of an end, as ends, if the block behind has a label, -1 for none."""
    if end[0] == "go":
        return [end] if end[1] != behind else []
    if end[0] == "branch" and end[4] != behind:
        return [end, ("go", end[4])]
    return [end]


def _label_of(item):
    """The label to which an instruction or end leads by its word, or None."""
    if item[0] == "go":
        return item[1]
    return item[3] if item[0] == "branch" else None


def assemble(machine, table, code):
    """The words of code, and the ascending pairs of an address and the label of the block that begins there."""
    blocks = code[1]
    rows = []
    starts = {}
    for at, (label, items, end) in enumerate(blocks):
        starts[label] = len(rows)
        rows.extend([*items, *_end_rows(end, blocks[at + 1][0] if at + 1 < len(blocks) else -1)])
    words = []
    for at, item in enumerate(rows):
        label = _label_of(item)
        word = encode(machine, table, item, 0 if label is None else starts[label] - at)
        if word is None:
            raise AssemblyError(at)
        words.append(word)
    return (tuple(words), tuple(sorted([(at, label) for label, at in starts.items()])))


def _targets(at, item, distance):
    """The addresses to which the word at an address leads by itself; a return leads nowhere."""
    if item[0] == "go":
        return [at + distance]
    return [at + distance, at + 1] if item[0] == "branch" else []


def _read_rows(machine, table, words):
    """For each word its instruction or end, with addresses in the place of labels."""
    found = []
    for at, word in enumerate(words):
        pair = decode(machine, table, word)
        if pair is None:
            raise AssemblyError(at)
        item, distance = pair
        if item[0] in ("go", "branch") and not 0 <= at + distance < len(words):
            raise AssemblyError(at)
        labels = _targets(at, item, distance)
        found.append((*item[:-len(labels)], *labels) if labels else item)
    if found == [] or found[-1][0] not in ("go", "return"):
        raise AssemblyError(len(words))
    return found


def disassemble(machine, table, words, params):
    """The code of words, whose blocks have their addresses as labels."""
    rows = _read_rows(machine, table, words)
    begins = {0: True}
    for at, item in enumerate(rows):
        if item[0] in ("go", "branch", "return"):
            begins[at + 1] = True
        if item[0] in ("go", "branch"):
            begins[_label_of(item)] = True
    starts = [at for at in sorted(begins) if at < len(rows)]
    blocks = []
    for start, behind in zip(starts, [*starts[1:], len(rows)]):
        mine = rows[start:behind]
        end = mine.pop() if mine[-1][0] in ("go", "branch", "return") else ("go", behind)
        blocks.append((start, tuple(mine), end))
    return (params, tuple(blocks))
