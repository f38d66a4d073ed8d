"""Reckoning with the remainders of integers by primes, where exact fractions would grow too long.

What is found so is right by a prime. It is taken back to integers, and whoever asks proves it there.
"""

# Powers of 2 that are less 1 a prime. What is sought has far fewer binary digits than the last ones.
DIGITS = (127, 521, 1279, 2281, 4423, 11213)


def primes():
    """Return the ascending list of some primes."""
    return [(1 << digits) - 1 for digits in DIGITS]


def nearest(number, prime):
    """Return the integer nearest to 0 with the remainder of a number."""
    rest = number % prime
    return rest if 2 * rest < prime else rest - prime


def inverted(number, prime):
    """Return the number that times a number, which the prime does not divide, has the remainder 1."""
    high, low = prime, number % prime
    behind, here = 0, 1
    while low > 1:
        part = high // low
        high, low = low, high - part * low
        behind, here = here, behind - part * here
    return here


def shortest_rule(numbers, prime):
    """Return the shortest list of c1, .., cm by which, by a prime, each of a row of numbers comes of the m ahead.

    It is right if there is one of at most half as many as numbers. (Massey's way: where the rule so far fails, it is
    mended by what an elder one failed by.)
    """
    rest = [number % prime for number in numbers]
    here, elder = [1], [1]
    many, gap, failed = 0, 1, 1
    for at in range(len(rest)):
        failing = sum([part * rest[at - n] for n, part in enumerate(here)]) % prime
        if failing == 0:
            gap += 1
        elif 2 * many <= at:
            mended = _mended(here, elder, gap, failing * inverted(failed, prime), prime)
            here, elder, failed = mended, here, failing
            many, gap = at + 1 - many, 1
        else:
            here = _mended(here, elder, gap, failing * inverted(failed, prime), prime)
            gap += 1
    return [-part for part in here[1:]] + [0] * (many + 1 - len(here))


def common_part(one, other, prime):
    """Return the greatest common divisor, by a prime, of two sums of powers, its first number 1.

    Both are rows of the numbers of the powers, the highest power first, that of the one 1.
    """
    high, low = one, _without_noughts(other, prime)
    while len(low) > 0:
        scale = inverted(low[0], prime)
        low = [part * scale % prime for part in low]
        high, low = low, _without_noughts(_rest_of(high, low, prime), prime)
    return high


def _mended(here, elder, gap, share, prime):
    """Return a rule less a share of an elder one, which begins so many places behind."""
    found = here + [0] * (gap + len(elder) - len(here))
    for at, part in enumerate(elder):
        found[gap + at] = (found[gap + at] - share * part) % prime
    while found[-1] == 0:
        found.pop()
    return found


def _without_noughts(row, prime):
    """Return the remainders of a row of numbers, from the first one on that is not 0."""
    rest = [number % prime for number in row]
    at = 0
    while at < len(rest) and rest[at] == 0:
        at += 1
    return rest[at:]


def _rest_of(high, low, prime):
    """Return what is left of a sum of powers behind its division by another one that begins with 1, noughts ahead."""
    rest = list(high)
    for at in range(len(high) - len(low) + 1):
        part = rest[at] % prime
        for n, number in enumerate(low):
            rest[at + n] = rest[at + n] - part * number
    return rest
