"""Machines as text."""

from leasttiles.errors import TextError
from leasttiles.notation import read_nested, show_nested
from leasttiles.reader import Lines
from leasttiles.rules import TOPS


def _show_leaf(leaf):
    if leaf[0] == "imm":
        return f"imm({leaf[1]}, {leaf[2]})"
    return "reg" if leaf[0] == "reg" else f"${leaf[1]}"


def _show_pattern(pattern):
    if pattern[0] not in TOPS:
        return show_nested(pattern, _show_leaf)
    parts = ", ".join([show_nested(part, _show_leaf) for part in pattern[1:]])
    return f"{pattern[0]}({parts})"


def _show_rule(rule):
    name, result, pattern, cost, latency, unit, ties = rule
    told = "none" if result == "" else result
    words = [f"{name} {told} = {_show_pattern(pattern)} cost {cost} latency {latency} unit {unit}"]
    for tie in ties:
        words.extend([str(part) for part in tie])
    return " ".join(words)


def show_machine(machine):
    """The text of a machine, each line ended by a line feed."""
    width, registers, frame, costs, rules = machine
    lines = [f"width {width}", f"registers {registers}", f"frame {frame}"]
    lines.append(f"costs {costs[0]} {costs[1]} {costs[2]}")
    lines.extend([_show_rule(rule) for rule in rules])
    return "".join([line + "\n" for line in lines])


def _read_numbers(lines, word, many):
    """The numbers on the next line, which is this word and so many numbers."""
    line = lines.take_header(word)
    found = [line.take_signed() for _ in range(many)]
    line.close()
    return found


def _read_leaf(line):
    token = line.take()
    if token == "reg":
        return ("reg",)
    if token == "$":
        return ("nt", line.take_name())
    if token != "imm":
        raise TextError(line.where)
    line.need("(")
    least = line.take_signed()
    line.need(",")
    most = line.take_signed()
    line.need(")")
    return ("imm", least, most)


def _read_pattern(line):
    word = line.peek()
    if word not in TOPS:
        return read_nested(line, _read_leaf)
    line.need(word)
    line.need("(")
    parts = [read_nested(line, _read_leaf)]
    for _ in range(TOPS[word] - 1):
        line.need(",")
        parts.append(read_nested(line, _read_leaf))
    line.need(")")
    return (word, *parts)


def _read_tie(line):
    word = line.take()
    if word in ("same", "result"):
        return (word, line.take_signed())
    if word != "needs":
        raise TextError(line.where)
    return (word, line.take_signed(), line.take_signed())


def _read_marked(line, word):
    """The number behind a word that must stand next."""
    line.need(word)
    return line.take_signed()


def _read_rule(line):
    name = line.take_name()
    told = line.take_name()
    line.need("=")
    pattern = _read_pattern(line)
    cost = _read_marked(line, "cost")
    latency = _read_marked(line, "latency")
    unit = _read_marked(line, "unit")
    ties = []
    while line.peek() != "":
        ties.append(_read_tie(line))
    return (name, "" if told == "none" else told, pattern, cost, latency, unit, tuple(ties))


def read_machine(text):
    """The machine that a text writes; TextError tells the first wrong line."""
    lines = Lines(text)
    width = _read_numbers(lines, "width", 1)[0]
    registers = _read_numbers(lines, "registers", 1)[0]
    frame = _read_numbers(lines, "frame", 1)[0]
    costs = tuple(_read_numbers(lines, "costs", 3))
    rules = []
    while lines.more():
        rules.append(_read_rule(lines.take_line()))
    return (width, registers, frame, costs, tuple(rules))
