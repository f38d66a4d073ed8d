"""rates.py: point [11], the rates of counts, which of two is greater, and the errors of the section."""

import random
import unittest
from fractions import Fraction
from math import gcd
from unittest.mock import patch

from samples import BLOCK, DUST, FOUR, NO_KITS, NO_STATES, SIDE, Base, fraction
from selfkits import rates
from selfkits.counts import area, rule
from selfkits.errors import InvalidKit, InvalidState, NoSquares
from selfkits.kits import is_kit, joined, powered
from selfkits.makes import moved, side_by_side, turned, turns_of
from selfkits.rates import faster, fills, rate
from selfkits.roots import common, each_once, greatest_root, is_root, narrower, quotient, worth
from selfkits.squares import square_kit
from selfkits.tables import determinant
from tiles import CARPET, CROSSED, GASKET, GOLDEN, NO_SQUARES, SMALL_KITS, TABLES, drawn_kits, few_kinds, made_kits

NAMES = ("kit", "state")
BOTH = ("one", "k", "other", "l")


def lines(table, ways):
    """A kit of pieces of a line: of each state as many copies as it has ways on, side by side."""
    return (table, tuple(tuple(((0, 2 * at), led) for at, led in enumerate(row)) for row in ways))


# Walks in which no row of so many follow one another: the rates come near to 2, the number of all walks.
ROWS = [(((9, 0), (0, 9)), ways) for ways in (
    [[0, 1], [0]], [[0, 1], [0, 2], [0]], [[0, 1], [0, 2], [0, 3], [0]], [[0, 0]], [[0, 1], [2], [0]], [[0, 1], [0, 0]],
)]
NEAR = [lines(*row) for row in ROWS]


def as_fractions(shape):
    return [Fraction(part) for part in shape]


def rest_of(one, other):
    one = list(one)
    while len(one) >= len(other):
        share = one[0] / other[0]
        one = [part - share * (other[n] if n < len(other) else 0) for n, part in enumerate(one)][1:]
    while one and one[0] == 0:
        one = one[1:]
    return one


def common_of(one, other):
    while other:
        one, other = other, rest_of(one, other)
    return one


def slope_of(row):
    return [part * (len(row) - 1 - n) for n, part in enumerate(row[:-1])]


def value(row, x):
    total = Fraction(0)
    for part in row:
        total = total * x + part
    return total


def roots_above(row, x):
    """How many roots above x a sum of powers has, each root counted once (Sturm)."""
    chain = [as_fractions(row), slope_of(as_fractions(row))]
    while chain[-1]:
        chain.append([-part for part in rest_of(chain[-2], chain[-1])])
    chain.pop()

    def changes(signs):
        signs = [sign > 0 for sign in signs if sign != 0]
        return sum(one != other for one, other in zip(signs, signs[1:]))

    return changes([value(part, x) for part in chain]) - changes([part[0] for part in chain])


def times_of(one, other):
    """The product of two sums of powers."""
    found = [0] * (len(one) + len(other) - 1)
    for at, part in enumerate(one):
        for n, more in enumerate(other):
            found[at + n] += part * more
    return tuple(found)


def told_sum(kit, state):
    return (1,) + tuple(-part for part, _ in rule(kit, state)[1])


def cases():
    row = SMALL_KITS + made_kits() + [(CARPET, 0), (powered(GOLDEN, 3), 1)] + [(kit, 0) for kit in NEAR]
    row += [(kit, 0) for kit in drawn_kits(31, 120)] + [(kit, 0) for kit in drawn_kits(32, 40, states=3, far=3)]
    return [(kit, state) for kit, state in row if few_kinds(kit, state, 100)]


CASES = cases()


class RateTest(Base):
    def test_by_hand(self):
        for kit, state, told in [
            (BLOCK, 0, ((1, -7, 14, -8), (4, 1), (4, 1))), (SIDE, 0, ((1, -3, 2), (2, 1), (2, 1))),
            (DUST, 0, ((1, -2, 0), (2, 1), (2, 1))), (FOUR, 2, ((1, -1), (1, 1), (1, 1))),
        ]:
            self.assertEqual(self.both_ways(rate, NAMES, (kit, state)), told)
        self.assertEqual(rate(CARPET, 0)[1:], ((6, 1), (6, 1)))
        shape, low, high = rate(GOLDEN, 0)
        self.assertTrue(2618 < 1000 * fraction(high) + 1000 and fraction(low) * 1000 < 1619)
        self.assertEqual(rest_of(as_fractions(shape), as_fractions((1, -1, -1))), [])

    def test_shapes(self):
        again = 0
        for kit, state in CASES:
            told, shape = told_sum(kit, state), rate(kit, state)[0]
            self.assertGreater(shape[0], 0)
            self.assertEqual(gcd(*shape), 1)
            one = as_fractions(told)
            # Each root of the rule's sum once: that sum by what it shares with its slope.
            shared = common_of(one, slope_of(one))
            self.assertEqual(len(shape), len(told) - len(shared) + 1)
            self.assertEqual(rest_of(one, as_fractions(shape)), [])
            self.assertEqual(len(common_of(as_fractions(shape), slope_of(as_fractions(shape)))), 1)
            again += len(shared) > 1
        self.assertGreater(again, 5)

    def test_low_and_high(self):
        exact = 0
        for kit, state in CASES:
            told = self.both_ways(rate, NAMES, (kit, state))
            self.all_tuples(told)
            shape, low, high = told[0], fraction(told[1]), fraction(told[2])
            self.assertEqual((low.numerator, low.denominator, high.numerator, high.denominator), told[1] + told[2])
            self.assertTrue(0 <= high - low <= Fraction(1, 1000))
            self.assertEqual(roots_above(shape, high), 0)
            if low == high:
                self.assertEqual(value(shape, low), 0)
                exact += 1
            else:
                self.assertEqual(roots_above(shape, low), 1)
                # A rate that is a fraction is an integer.
                self.assertTrue(int(low) < low or value(shape, low) != 0)
                self.assertEqual([n for n in range(11) if low <= n <= high and value(shape, n) == 0], [])
        self.assertTrue(20 < exact < len(CASES) - 20)

    def test_turned_and_moved(self):
        for kit, state in [(GOLDEN, 0), (GASKET, 0), (CROSSED, 0)]:
            for turn in turns_of(kit):
                self.assertEqual(rate(turned(kit, turn), state), rate(kit, state))
            self.assertEqual(faster(moved(kit, state, (5, -3)), len(kit[1]), kit, state), 0)

    def test_powers(self):
        for kit, state in [(GOLDEN, 0), (GASKET, 0), (SIDE, 0), (NEAR[1], 0)]:
            for n in (2, 3):
                low, high = [fraction(part) for part in rate(kit, state)[1:]]
                first, last = [fraction(part) for part in rate(powered(kit, n), state)[1:]]
                self.assertTrue(low ** n <= last and first <= high ** n)


class FasterTest(Base):
    def told(self, one, k, other, l):
        first, second = rate(one, k), rate(other, l)
        if fraction(first[2]) < fraction(second[1]):
            return -1
        if fraction(second[2]) < fraction(first[1]):
            return 1
        shared = common_of(as_fractions(first[0]), as_fractions(second[0]))
        rows = [(as_fractions(part[0]), fraction(part[1]), fraction(part[2])) for part in (first, second)]
        greatest = [self.narrowed(row, low, high) for row, low, high in rows]
        if all(roots_above(shared, low) + (value(shared, low) == 0) > 0 for low, _ in greatest):
            return 0
        return 1 if greatest[0][0] > greatest[1][1] else -1

    def narrowed(self, row, low, high):
        for _ in range(60):
            if low == high:
                break
            middle = (low + high) / 2
            if roots_above(row, middle) > 0:
                low = middle
            else:
                high = middle
        return low, high

    def test_by_hand(self):
        for one, k, other, l, told in [
            (BLOCK, 0, SIDE, 0, 1), (SIDE, 0, BLOCK, 0, -1), (SIDE, 0, DUST, 0, 0), (DUST, 0, CROSSED, 0, 0),
            (CARPET, 0, BLOCK, 0, 1), (GOLDEN, 0, GOLDEN, 1, 0), (GOLDEN, 0, SIDE, 0, -1), (GOLDEN, 1, FOUR, 2, 1),
            (powered(GOLDEN, 2), 0, GOLDEN, 0, 1), (GASKET, 0, (CARPET[0], GASKET[1]), 0, 0),
        ]:
            self.assertEqual(self.both_ways(faster, BOTH, (one, k, other, l)), told)

    def test_near_ones(self):
        order = [4, 0, 1, 2, 3]
        for at, one in enumerate(order):
            for to, other in enumerate(order):
                told = faster(NEAR[one], 0, NEAR[other], 0)
                self.assertEqual(told, (at > to) - (at < to))
        self.assertEqual(faster(NEAR[5], 0, NEAR[3], 0), 0)
        self.assertTrue(all(is_kit(kit) for kit in NEAR))

    def test_drawn_kits(self):
        row = sorted(CASES, key=lambda case: fraction(rate(*case)[1]))
        found = set()
        for at in range(len(row)):
            for other in row[at + 1:at + 4]:
                told = faster(*row[at], *other)
                self.assertEqual(told, self.told(*row[at], *other))
                self.assertEqual(faster(*other, *row[at]), -told)
                self.assertIs(type(told), int)
                found.add(told)
            self.assertEqual(faster(*row[at], *row[at]), 0)
        self.assertTrue({0, -1} <= found)

    def test_roots_that_differ_by_little(self):
        # Sums of powers whose greatest roots are nearer than any number that is told of them.
        one, other = (1, 0, -2), (1, 0, -2 * 10 ** 40, 0, 10 ** 80 - 1)
        first, second = greatest_root(one, 9), greatest_root(other, 9 * 10 ** 20)
        for _ in range(400):
            first, second = narrower(one, first), narrower(other, second)
        low, high = Fraction(first[0], first[2]), Fraction(first[1], first[2])
        self.assertTrue(low ** 2 < 2 < high ** 2)
        low, high = Fraction(second[0], second[2]), Fraction(second[1], second[2])
        self.assertTrue(low ** 2 < 10 ** 40 + 1 <= high ** 2)

    def test_small_primes(self):
        told = [rate(kit, state) for kit, state in CASES]
        pairs = [(CASES[at], CASES[at + 1]) for at in range(0, 60, 3)]
        asked = [faster(*one, *other) for one, other in pairs]
        for row in ([3, 5, 7, 11, 13, 101, (1 << 61) - 1], [5, 3, 97, (1 << 89) - 1]):
            with patch("selfkits.roots.primes", lambda: row):
                self.assertEqual([rate(kit, state) for kit, state in CASES], told)
                self.assertEqual([faster(*one, *other) for one, other in pairs], asked)

    def test_the_greatest_of_drawn_roots(self):
        draws = random.Random(33)
        for _ in range(300):
            roots = sorted({draws.randint(-9, 30) for _ in range(draws.randrange(5))} | {draws.randint(1, 30)})
            shape = (1,)
            for root in roots:
                shape = times_of(shape, (1, -root))
            # Pairs of roots that are not real lie anywhere, beyond the greatest one, too.
            for middle in sorted({draws.randint(-9, 40) for _ in range(draws.randrange(3))}):
                shape = times_of(shape, (1, -2 * middle, middle * middle + draws.randint(1, 3)))
            left, right, bottom = span = greatest_root(shape, 30)
            for _ in range(20):
                left, right, bottom = span = narrower(shape, span)
            self.assertEqual((left, right), (roots[-1] * bottom, roots[-1] * bottom))
            for root in roots:
                self.assertIs(is_root((1, -root), span), root == roots[-1])

    def test_roots_of_divisors(self):
        # The greatest root is that of 2, or of 3; divisors have others at the ends of where it lies.
        for number, other in [(2, 3), (3, 2)]:
            shape = times_of(times_of((1, 0, -number), (1, -1)), (1, 5, 7))
            span = greatest_root(shape, 9)
            self.assertIs(is_root((1, 0, -number), span), True)
            self.assertIs(is_root((1, -1), span), False)
            self.assertIs(is_root((1, 5, 7), span), False)
            self.assertIs(is_root(times_of((1, 0, -number), (1, -1)), span), True)
            for _ in range(30):
                span = narrower(shape, span)
            self.assertIs(is_root((1, 0, -number), span), True)
            self.assertIs(is_root((1, 0, -other), span), False)

    def test_quotients(self):
        for one, other in [((1, 2, 3), (1, 1)), ((4, 0, -1), (1, -2)), ((1,), (1,)), ((2, 5), (1, 3)),
            ((1, -1, 1, -1), (1, 0, 1))]:
            product = times_of(one, other)
            self.assertEqual(quotient(product, other), one)
            self.assertIsNone(quotient(product[:-1] + (product[-1] + 1,), other) if len(other) > 1 else None)
            if len(other) > 2:
                self.assertIsNone(quotient(product[:-2] + (product[-2] - 1, product[-1]), other))
        self.assertIsNone(quotient((1, 0), (1, 0, 0)))
        self.assertEqual(common((1, -3, 2), (2, -3)), (1,))
        self.assertEqual(common((1, -6, 11, -6), (3, -12, 9)), (1, -4, 3))
        self.assertEqual([worth((1, -3, 2), 3, 2), worth((1, 0), 5, 7), worth((4,), 5, 7)], [-1, 5, 4])

    def test_roots_that_come_again(self):
        self.assertEqual(each_once((1, -3, 3, -1)), (1, -1))
        self.assertEqual(each_once((1, -5, 8, -4, 0, 0)), (1, -3, 2, 0))
        self.assertEqual(each_once((1, 0, -4, 0, 4)), (1, 0, -2))
        self.assertEqual(each_once((1, -7)), (1, -7))


class FillsTest(Base):
    def test_by_hand(self):
        for kit, state, told in [(BLOCK, 0, True), (SIDE, 0, False), (FOUR, 3, True), (CARPET, 0, False)]:
            self.assertIs(self.both_ways(fills, NAMES, (kit, state)), told)

    def test_just_where_there_is_an_area(self):
        some = 0
        for kit, state in CASES:
            told = fills(kit, state)
            self.assertIs(told, area(kit, state)[0] > 0)
            _, low, high = rate(kit, state)
            self.assertIs(told, low == high == (abs(determinant(kit[0])), 1))
            some += told
        self.assertGreater(some, 8)
        for table in TABLES:
            self.assertIs(fills(square_kit(table), 0), True)
        wide = joined(BLOCK, ((0, (3, 1)), (0, (-9, 9))))
        self.assertIs(fills(wide, 1), True)
        self.assertEqual(faster(wide, 1, BLOCK, 0), 0)
        self.assertIs(fills(side_by_side(SIDE, BLOCK), 0), False)


class ErrorsTest(Base):
    def each(self):
        yield rate, NAMES, ()
        yield fills, NAMES, ()
        yield faster, BOTH, (BLOCK, 0)

    def test_no_kit(self):
        for call, names, more in self.each():
            for bad in NO_KITS:
                self.raises_both_ways(InvalidKit, bad, call, names, (bad, 0) + more)
            self.raises_both_ways(InvalidKit, NO_KITS[3], call, names, (NO_KITS[3], -1) + more)
        for bad in NO_KITS:
            self.raises_both_ways(InvalidKit, bad, faster, BOTH, (BLOCK, 0, bad, 0))

    def test_no_squares(self):
        for call, names, more in self.each():
            for bad in NO_SQUARES:
                self.raises_both_ways(NoSquares, bad[0], call, names, (bad, 0) + more)
                self.raises_both_ways(NoSquares, bad[0], call, names, (bad, None) + more)
        for bad in NO_SQUARES:
            self.raises_both_ways(NoSquares, bad[0], faster, BOTH, (BLOCK, 0, bad, -1))

    def test_no_state(self):
        for call, names, more in self.each():
            for bad in NO_STATES:
                self.raises_both_ways(InvalidState, bad, call, names, (BLOCK, bad) + more)
        for bad in NO_STATES:
            self.raises_both_ways(InvalidState, bad, faster, BOTH, (FOUR, 3, BLOCK, bad))

    def test_the_one_comes_ahead_of_the_other(self):
        bad = NO_SQUARES[0]
        self.raises_both_ways(NoSquares, bad[0], faster, BOTH, (bad, 0, NO_KITS[4], 0))
        self.raises_both_ways(InvalidState, 4, faster, BOTH, (BLOCK, 4, NO_KITS[4], 0))
        self.raises_both_ways(InvalidState, 4, faster, BOTH, (BLOCK, 4, bad, 5))
        self.raises_both_ways(InvalidKit, NO_KITS[4], faster, BOTH, (BLOCK, 0, NO_KITS[4], 5))

    def test_each_is_defined_in_rates(self):
        for name in ("rate", "faster", "fills"):
            self.assertEqual(getattr(rates, name).__module__, "selfkits.rates")


if __name__ == "__main__":
    unittest.main()
