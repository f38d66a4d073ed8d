"""Tables ((a, b), (c, d)) of integers, and what they do to offsets and points."""

from selfkits.errors import InvalidOffset, InvalidPoint, InvalidPower, InvalidTable
from selfkits.shapes import is_integer, is_offset, is_pair, is_point, lowest

UNCHANGED = ((1, 0), (0, 1))


def is_table(told):
    """Tell whether a tuple of tuples of integers is a table."""
    # A row of a table has the shape of an offset.
    return is_pair(told) and is_offset(told[0]) and is_offset(told[1])


def is_growing(told):
    """Tell whether it is a table of which powers of the inverse go to 0."""
    if not is_table(told):
        return False
    area = determinant(told)
    if area > 0:
        return area >= 2 and -area <= trace(told) <= area
    return area <= -2 and area + 2 <= trace(told) <= -area - 2


def determinant(table):
    """Return a d - b c."""
    check_table(table)
    (a, b), (c, d) = table
    return a * d - b * c


def trace(table):
    """Return a + d."""
    check_table(table)
    return table[0][0] + table[1][1]


def times(table, offset):
    """Return the offset to which a table takes an offset."""
    check_table(table)
    check_offset(offset)
    (a, b), (c, d) = table
    x, y = offset
    return (a * x + b * y, c * x + d * y)


def product(one, other):
    """Return the table that does first what the other does, then what the one does."""
    check_table(one)
    check_table(other)
    (a, b), (c, d) = one
    (p, q), (r, s) = other
    return ((a * p + b * r, a * q + b * s), (c * p + d * r, c * q + d * s))


def power(table, n):
    """Return the n-th power of a table, n from 0 on."""
    check_table(table)
    if not is_integer(n) or n < 0:
        raise InvalidPower(n)
    told = UNCHANGED
    for at in reversed(range(n.bit_length())):
        told = product(told, told)
        if (n >> at) & 1 == 1:
            told = product(told, table)
    return told


def undone(table, point):
    """Return the point that a growing table takes to a point."""
    check_growing(table)
    if not is_point(point):
        raise InvalidPoint(point)
    (a, b), (c, d) = table
    (x, x_bottom), (y, y_bottom) = point
    # Both numbers are brought to one bottom, ahead of the inverse's rows (d, -b) and (-c, a).
    x, y = x * y_bottom, y * x_bottom
    bottom = x_bottom * y_bottom * determinant(table)
    return (lowest(d * x - b * y, bottom), lowest(a * y - c * x, bottom))


def axes(table):
    """Return the least power, from 1 to 8, that takes the axes to the axes, None if there is none."""
    check_growing(table)
    here = table
    for n in range(1, 9):
        if here[0].count(0) == 1 and here[1].count(0) == 1:
            return n
        here = product(here, table)
    return None


def inverse(table):
    """Return (top, bottom): the inverse of a growing table is the table top by the bottom, which is above 0."""
    (a, b), (c, d) = table
    bottom = determinant(table)
    if bottom < 0:
        return (((-d, b), (c, -a)), -bottom)
    return (((d, -b), (-c, a)), bottom)


def size(table):
    """Return the greater of both rows' sums of absolute values."""
    (a, b), (c, d) = table
    return max(abs(a) + abs(b), abs(c) + abs(d))


def check_table(table):
    """Raise InvalidTable for what is no table."""
    if not is_table(table):
        raise InvalidTable(table)


def check_growing(table):
    """Raise InvalidTable for what is no table, or does not grow."""
    if not is_growing(table):
        raise InvalidTable(table)


def check_offset(offset):
    """Raise InvalidOffset for what is no offset."""
    if not is_offset(offset):
        raise InvalidOffset(offset)
