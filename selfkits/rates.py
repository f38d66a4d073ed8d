"""The rates by which the numbers of shown squares grow from zoom to zoom: roots of their rules, told exactly."""

from selfkits.counts import rule, sum_of
from selfkits.roots import common, each_once, greatest_root, is_root, narrower, worth
from selfkits.shapes import lowest
from selfkits.squares import check_squares
from selfkits.tables import determinant


def rate(kit, state):
    """Return (shape, low, high): the sum of powers of which the rate is a root, and numbers around the rate."""
    check_squares(kit, state)
    shape, span = _root_of(kit, state)
    while (span[1] - span[0]) * 1000 > span[2]:
        span = narrower(shape, span)
    left, right, bottom = span
    return (shape, lowest(left, bottom), lowest(right, bottom))


def faster(one, k, other, l):
    """Return 1, 0 or -1 as the rate of the one is greater, the same or less than that of the other one."""
    check_squares(one, k)
    check_squares(other, l)
    first, mine = _root_of(one, k)
    second, its = _root_of(other, l)
    shared = common(first, second)
    # A shared root that is the greatest of both is the same one.
    if is_root(shared, mine) and is_root(shared, its):
        return 0
    while True:
        if mine[1] * its[2] <= its[0] * mine[2]:
            return -1
        if its[1] * mine[2] <= mine[0] * its[2]:
            return 1
        mine, its = narrower(first, mine), narrower(second, its)


def fills(kit, state):
    """Tell whether the rate is the absolute value of the determinant."""
    check_squares(kit, state)
    return worth(_sum_of(kit, state), abs(determinant(kit[0])), 1) == 0


def _sum_of(kit, state):
    """Return the sum of powers of which the rate is the greatest root, by the rule."""
    _, parts = rule(kit, state)
    return sum_of([part for part, _ in parts])


def _root_of(kit, state):
    """Return (shape, span): the sum of powers with these roots, each once, and where the greatest one lies."""
    shape = each_once(_sum_of(kit, state))
    # Counts never grow by more than the squares of the table's square.
    return (shape, greatest_root(shape, abs(determinant(kit[0]))))
