"""Sums and products of numbers, fractions (top, bottom) in lowest terms."""

from selfkits.shapes import lowest


def plus(one, other):
    """Return the sum of two numbers."""
    return lowest(one[0] * other[1] + other[0] * one[1], one[1] * other[1])


def by(one, other):
    """Return the product of two numbers."""
    return lowest(one[0] * other[0], one[1] * other[1])


def is_less(one, other):
    """Tell whether the one number is less than the other one."""
    return one[0] * other[1] < other[0] * one[1]
