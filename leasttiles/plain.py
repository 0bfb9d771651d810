"""What plain values are, asked of values of any form."""

LETTERS = "abcdefghijklmnopqrstuvwxyz"
DIGITS = "0123456789"


def is_within(value, least, most):
    """Whether a value is an integer from least to most; True and False are none."""
    return type(value) is int and least <= value <= most


def is_row(value, size):
    """Whether a value is a tuple of so many items."""
    return type(value) is tuple and len(value) == size
