"""Roots of sums of powers.

A sum of powers is a tuple of integers, those by which the powers count, the highest power first, the first one 1.
So a root of it that is a fraction is an integer.
"""

from selfkits.remainders import common_part, nearest, primes


def worth(shape, top, bottom):
    """Return what a sum of powers comes to at top by bottom, times that power of the bottom that makes it whole."""
    total, scale = 0, 1
    for part in shape:
        total = total * top + part * scale
        scale = scale * bottom
    return total


def each_once(shape):
    """Return the sum of powers with the same roots, each once."""
    many = len(shape) - 1
    if many == 0:
        return shape
    # A root that comes more than once is one of the slope, too.
    slope = tuple([part * (many - at) for at, part in enumerate(shape[:-1])])
    return quotient(shape, common(shape, slope))


def common(one, other):
    """Return the greatest common divisor of a sum of powers and of one that may begin with another number."""
    found = (1,)
    for prime in primes():
        found = tuple([nearest(part, prime) for part in common_part(one, other, prime)])
        # By a prime it is never too short, so it is right if it divides both.
        if quotient(one, found) is not None and quotient(other, found) is not None:
            break
    return found


def quotient(one, other):
    """Return the one divided by the other, which begins with 1; None if something is left."""
    many = len(one) - len(other) + 1
    rest = list(one)
    for at in range(many):
        for n in range(1, len(other)):
            rest[at + n] = rest[at + n] - rest[at] * other[n]
    if any([part != 0 for part in rest[max(0, many):]]):
        return None
    return tuple(rest[:many])


def greatest_root(shape, most):
    """Return (left, right, bottom) of the greatest root, above 0 and at most a number, each root coming once.

    It is left by bottom if right is the same, else it alone of the roots lies between left and right by bottom.
    """
    top = 1
    while top <= most:
        top = 2 * top
    rows = [(0, top, 1)]
    while True:
        left, right, bottom = rows.pop()
        many = 0
        if left < right:
            many = _signs_between(shape, left, right, bottom)
        elif worth(shape, left, bottom) == 0:
            return (left, right, bottom)
        if many == 1:
            return (left, right, bottom)
        # Up to so many roots may lie between: those farther right are looked at first.
        if many > 1:
            middle = left + right
            rows.append((2 * left, middle, 2 * bottom))
            rows.append((middle, middle, 2 * bottom))
            rows.append((middle, 2 * right, 2 * bottom))


def narrower(shape, span):
    """Return what `greatest_root` does, with the half of what lay between."""
    left, right, bottom = span
    middle = left + right
    here = worth(shape, middle, 2 * bottom)
    # Behind the greatest root a sum of powers is above 0.
    if left == right or here == 0:
        return (middle, middle, 2 * bottom)
    if here > 0:
        return (2 * left, middle, 2 * bottom)
    return (middle, 2 * right, 2 * bottom)


def is_root(shape, span):
    """Tell whether the root in what `greatest_root` returns of a sum of powers is one of this divisor of it."""
    left, right, bottom = span
    if left == right:
        return worth(shape, left, bottom) == 0
    # At most one of its roots lies there, and the number of signs is off by an even one.
    return _signs_between(shape, left, right, bottom) % 2 == 1


def _signs_between(shape, left, right, bottom):
    """Return how often signs change in the sum of powers whose roots above 0 are those between left and right.

    So many roots lie between, or an even number less. (Descartes)
    """
    row = _moved(_scaled(shape, bottom), left)
    # Roots between 0 and 1 come above 0 as their inverses less 1.
    row = _moved(_scaled(row[::-1], right - left), 1)
    signs = [part > 0 for part in row if part != 0]
    return len([at for at in range(1, len(signs)) if signs[at] != signs[at - 1]])


def _scaled(row, number):
    """Return the list of the numbers of a row, the n-th one times the n-th power of a number, counted from 0."""
    found = []
    scale = 1
    for part in row:
        found.append(part * scale)
        scale = scale * number
    return found


def _moved(row, number):
    """Return the list of the sum of powers whose roots are less by a number."""
    found = list(row)
    for last in reversed(range(1, len(found))):
        for at in range(1, last + 1):
            found[at] = found[at] + number * found[at - 1]
    return found
