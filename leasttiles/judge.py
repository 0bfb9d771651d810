"""The judge: whether two expressions, or a sequence and an expression, have one value for all words."""

from leasttiles.sequences import nodes_of, rows_value
from leasttiles.straight import Straight
from leasttiles.words import words_at


def judge(width, inputs, first, second):
    """The least tuple of words for which two expressions differ, or None."""
    both = Straight(width)
    one = both.put(first)
    other = both.put(second)
    for number in range(1 << (width * inputs)):
        words = words_at(width, inputs, number)
        found = both.values_for(words)
        if found[one] != found[other]:
            return words
    return None


def judge_sequence(machine, inputs, sequence, e):
    """The least tuple of words for which a sequence and an expression differ, or None."""
    width = machine[0]
    rows = nodes_of(machine, sequence)
    wanted = Straight(width)
    last = wanted.put(e)
    for number in range(1 << (width * inputs)):
        words = words_at(width, inputs, number)
        if rows_value(width, rows, words) != wanted.values_for(words)[last]:
            return words
    return None
