"""The shapes of plain values: integers, offsets, numbers, points and rows."""

from math import gcd


def is_integer(told):
    """Tell whether something is an integer, which True and False are not."""
    return isinstance(told, int) and not isinstance(told, bool)


def is_pair(told):
    """Tell whether something is a tuple of two things."""
    return isinstance(told, tuple) and len(told) == 2


def is_offset(told):
    """Tell whether something is a pair of integers."""
    return is_pair(told) and is_integer(told[0]) and is_integer(told[1])


def is_number(told):
    """Tell whether something is a fraction (top, bottom) in lowest terms, its bottom above 0."""
    return is_offset(told) and told[1] > 0 and gcd(told[0], told[1]) == 1


def is_point(told):
    """Tell whether something is a pair of numbers."""
    return is_pair(told) and is_number(told[0]) and is_number(told[1])


def is_place(told, many):
    """Tell whether something is an index of so many things, counted from 0."""
    return is_integer(told) and 0 <= told < many


def is_row(told):
    """Tell whether something is a tuple of integers."""
    return isinstance(told, tuple) and all([is_integer(part) for part in told])


def is_two_rows(told):
    """Tell whether something is a pair of tuples of integers, as an address is."""
    return is_pair(told) and is_row(told[0]) and is_row(told[1])


def is_ascending(told):
    """Tell whether each thing of a tuple is greater than the one ahead."""
    return all([told[at] < told[at + 1] for at in range(len(told) - 1)])


def lowest(top, bottom):
    """Return the number that is top by bottom; the bottom is any integer but 0."""
    part = gcd(top, bottom)
    if bottom < 0:
        part = -part
    return (top // part, bottom // part)
