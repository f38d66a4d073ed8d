"""counts.py: point [11], counts, their shortest rules and areas, and the errors of the section."""

import random
import unittest
from fractions import Fraction
from unittest.mock import patch

from samples import BLOCK, DUST, FOUR, NO_KITS, NO_STATES, SIDE, TWO, Base, fraction
from selfkits import counts
from selfkits.counts import area, count, rule
from selfkits.errors import InvalidKit, InvalidState, InvalidZoom, NoSquares
from selfkits.hulls import box
from selfkits.kits import joined, powered
from selfkits.makes import moved, turned, turns_of
from selfkits.rates import fills, rate
from selfkits.remainders import inverted, nearest, primes, shortest_rule
from selfkits.squares import kinds, shown_squares, square_kit
from selfkits.tables import determinant, power, times
from test_squares import NO_ZOOMS
from tiles import (
    CARPET, CROSSED, GASKET, GOLDEN, NO_SQUARES, PARTLY, SMALL_KITS, TABLES, drawn_kits, few_kinds, made_kits, solved,
    told_area, told_counts, told_lots,
)

NAMES = ("kit", "state", "zoom")
# The middle third of a square is left out at each depth, the rest is filled again beside it.
FRAMED = (((3, 0), (0, 3)), (
    tuple(((x, y), 0) for x in range(3) for y in range(3) if (x, y) != (1, 1)),
    tuple(((x, y), 1) for x in range(3) for y in range(3)),
    tuple(((x, y), 1 if (x, y) == (1, 1) else 2) for x in range(3) for y in range(3) if (x, y) != (2, 2)),
))


def cases():
    """Kits and states with few kinds."""
    row = SMALL_KITS + made_kits() + [(FRAMED, 0), (FRAMED, 1), (FRAMED, 2), (CARPET, 0)]
    row += [(kit, 0) for kit in drawn_kits(21, 80)] + [(kit, 0) for kit in drawn_kits(22, 30, [TWO], 3, 4, 1)]
    return [(kit, state) for kit, state in row if sum(map(len, kit[1])) < 60 and few_kinds(kit, state, 45)]


CASES = cases()


def rank_is_full(firsts, more):
    """Whether no shorter rule leads on: the lines of counts, each from a later zoom on, do not come of one another."""
    many = len(firsts)
    lines = [[Fraction(more[n + m]) for m in range(many)] + [Fraction(0)] for n in range(many)]
    try:
        return len(solved(lines)) == many
    except StopIteration:
        return False


class CountTest(Base):
    def test_by_hand(self):
        for kit, state, told in [
            (BLOCK, 0, [9, 16, 36, 100, 324]), (FOUR, 2, [4, 4, 4, 4]), (DUST, 0, [6, 10, 20, 40]),
            (SIDE, 0, [6, 8, 12, 20]), (square_kit(((0, -3), (2, 0))), 0, [9, 20, 64]),
        ]:
            for zoom, number in enumerate(told):
                self.assertEqual(self.both_ways(count, NAMES, (kit, state, zoom)), number)

    def test_to_the_zoom_200(self):
        self.assertGreater(len(CASES), 90)
        for kit, state in CASES:
            told = told_counts(kit, state, 200)
            for zoom in (0, 1, 2, 3, 5, 17, 60, 199, 200):
                self.assertEqual(count(kit, state, zoom), told[zoom])

    def test_as_many_as_squares(self):
        for kit, state in SMALL_KITS + made_kits():
            for zoom in range(3):
                self.assertEqual(count(kit, state, zoom), len(told_lots(kit, state, zoom)))
        for kit, state in [(GASKET, 0), (GOLDEN, 0), (CROSSED, 0)]:
            for zoom in (4, 5):
                self.assertEqual(count(kit, state, zoom), len(shown_squares(kit, state, zoom)))

    def test_squares_of_a_square(self):
        for table in TABLES:
            for zoom in (0, 1, 2, 19, 200):
                x, y = times(power(table, zoom), (1, 1))
                self.assertEqual(count(square_kit(table), 0, zoom), (abs(x) + 2) * (abs(y) + 2))

    def test_turned_and_powered(self):
        for kit, state in SMALL_KITS:
            if not few_kinds(kit, state, 60):
                continue
            for turn in turns_of(kit):
                self.assertEqual(count(turned(kit, turn), state, 30), count(kit, state, 30))
            for n in (2, 3):
                self.assertEqual(count(powered(kit, n), state, 20), count(kit, state, 20 * n))


class RuleTest(Base):
    def test_by_hand(self):
        for kit, state, firsts, parts in [
            (FOUR, 2, (4,), (1,)), (DUST, 0, (6, 10), (2, 0)), (SIDE, 0, (6, 8), (3, -2)),
            (BLOCK, 0, (9, 16, 36), (7, -14, 8)),
        ]:
            told = self.both_ways(rule, NAMES[:2], (kit, state))
            self.assertEqual(told, (firsts, tuple((part, 1) for part in parts)))
            self.all_tuples(told)

    def test_it_leads_on_and_no_shorter_one_does(self):
        noughts = 0
        for kit, state in CASES:
            firsts, parts = rule(kit, state)
            many = len(parts)
            told = told_counts(kit, state, 2 * many + len(kinds(kit, state)) + 9)
            self.assertEqual(firsts, tuple(told[:many]))
            self.assertTrue(all(type(part) is tuple and part[1] == 1 for part in parts))
            for zoom in range(many, len(told)):
                self.assertEqual(sum(part * told[zoom - 1 - n] for n, (part, _) in enumerate(parts)), told[zoom])
            self.assertTrue(rank_is_full(firsts, told), (kit, state))
            noughts += parts[-1][0] == 0
        # Such rules have a last number 0, as the first counts are not like the later ones.
        self.assertGreater(noughts, 3)

    def test_long_rules(self):
        tried = 0
        for kit in drawn_kits(23, 400, states=4, copies=5, far=3):
            if few_kinds(kit, 0, 150) and not few_kinds(kit, 0, 45):
                firsts, parts = rule(kit, 0)
                numbers = list(firsts)
                while len(numbers) <= 200:
                    numbers.append(sum(part * numbers[-1 - n] for n, (part, _) in enumerate(parts)))
                for zoom in (len(parts), len(parts) + 1, 2 * len(parts), 150, 200):
                    self.assertEqual(count(kit, 0, zoom), numbers[zoom])
                tried += 1
        self.assertGreater(tried, 40)


class PrimesTest(Base):
    """Rules are found by primes, and proved: primes that are too small change nothing but the time it takes."""

    def test_small_primes(self):
        told = [rule(kit, state) for kit, state in CASES]
        for row in ([3, 5, 7, 11, 13, 101, 10007, (1 << 61) - 1], [5, 3, 997, (1 << 89) - 1], [7, (1 << 127) - 1]):
            with patch("selfkits.counts.primes", lambda: row):
                self.assertEqual([rule(kit, state) for kit, state in CASES], told)

    def test_each_prime_is_one(self):
        """Lucas and Lehmer's test of 2 to the power n less 1."""
        for prime in primes():
            digits = prime.bit_length()
            self.assertEqual(prime, 2 ** digits - 1)
            here = 4
            for _ in range(digits - 2):
                here = (here * here - 2) % prime
            self.assertEqual(here, 0)

    def test_nearest_and_inverted(self):
        for prime in (3, 7, 101, 8191):
            for number in list(range(1, min(prime, 300))) + [prime + 1, 5 * prime - 1, -1]:
                self.assertEqual(inverted(number, prime) * number % prime, 1)
                self.assertEqual((nearest(number, prime) - number) % prime, 0)
                self.assertTrue(2 * abs(nearest(number, prime)) < prime)
        self.assertEqual(nearest(0, 7), 0)

    def test_shortest_rules(self):
        draws = random.Random(24)
        for _ in range(600):
            many, prime = draws.randrange(1, 6), draws.choice([5, 7, 11, 101, (1 << 31) - 1])
            parts = [draws.choice([0, 0, 1, -1, 2, 3]) for _ in range(many)]
            numbers = [draws.choice([0, 1, 2, -1, 5]) for _ in range(many)]
            while len(numbers) < 14:
                numbers.append(sum(part * numbers[-1 - n] for n, part in enumerate(parts)))
            told = shortest_rule(numbers, prime)
            self.assertEqual(len(told), self.shortest(numbers, prime))
            for at in range(len(told), len(numbers)):
                self.assertEqual((sum(part * numbers[at - 1 - n] for n,
                    part in enumerate(told)) - numbers[at]) % prime, 0)

    def shortest(self, numbers, prime):
        """How many of the lines of numbers, each from a later one on, do not come of one another."""
        lines = [[number % prime for number in numbers[at:at + 7]] for at in range(7)]
        rank = 0
        for at in range(7):
            pivot = next((line for line in lines[rank:] if line[at]), None)
            if pivot is not None:
                lines.remove(pivot)
                lines.insert(rank, pivot)
                for n in range(rank + 1, 7):
                    share = lines[n][at] * pow(pivot[at], -1, prime)
                    lines[n] = [(one - share * other) % prime for one, other in zip(lines[n], pivot)]
                rank += 1
        return rank


class AreaTest(Base):
    def test_by_hand(self):
        for kit, state, told in [
            (BLOCK, 0, (1, 1)), (SIDE, 0, (0, 1)), (FOUR, 3, (2, 1)), (FOUR, 2, (0, 1)), (FRAMED, 0, (0, 1)),
            (FRAMED, 1, (1, 1)), (FRAMED, 2, (1, 2)),
            (joined(BLOCK, ((0, (0, 0)), (0, (1, 0)), (0, (5, 5)))), 1, (3, 1)),
            (PARTLY, 0, (1, 1)),
        ]:
            self.assertEqual(self.both_ways(area, NAMES[:2], (kit, state)), told)

    def test_as_much_as_of_the_parts(self):
        some = 0
        for kit, state in CASES:
            told = told_area(kit, state)
            self.assertEqual(area(kit, state), (told.numerator, told.denominator))
            some += told > 0
        self.assertGreater(some, 11)

    def test_squares_at_a_great_zoom(self):
        for kit, state in CASES:
            near = Fraction(count(kit, state, 200), abs(determinant(kit[0])) ** 200)
            self.assertLessEqual(fraction(area(kit, state)), near)
            self.assertLess(near - fraction(area(kit, state)), Fraction(1, 100))

    def test_moved_and_turned(self):
        for kit, state in [(BLOCK, 0), (PARTLY, 1), (FRAMED, 2)]:
            for offset in [(1, 0), (-7, 9)]:
                self.assertEqual(area(moved(kit, state, offset), len(kit[1])), area(kit, state))
            for turn in turns_of(kit):
                self.assertEqual(area(turned(kit, turn), state), area(kit, state))
            self.assertEqual(area(powered(kit, 2), state), area(kit, state))
        for table in TABLES:
            self.assertEqual(area(square_kit(table), 0), (1, 1))


class TogetherTest(Base):
    """Squares, counts, rules, areas and rates of one kit against each other."""

    def test_each_other(self):
        for kit, state in CASES:
            firsts, parts = rule(kit, state)
            self.assertEqual(firsts[0], len(shown_squares(kit, state, 0)))
            many = abs(determinant(kit[0]))
            self.assertIs(fills(kit, state), area(kit, state)[0] > 0)
            _, low, high = rate(kit, state)
            self.assertLessEqual(fraction(high), many)
            self.assertGreaterEqual(fraction(low), 1)
            left, down, right, up = [fraction(part) for part in box(kit, state)]
            self.assertLessEqual(fraction(area(kit, state)), (right - left) * (up - down))

    def test_any_question_behind_any_other(self):
        asked = [(call, given) for given in CASES[:30:3] for call in (rule, area, fills, rate, kinds)]
        asked += [(count, given + (zoom,)) for given in CASES[:30:3] for zoom in (0, 9)]
        first = [call(*values) for call, values in asked]
        self.assertEqual([call(*values) for call, values in reversed(asked)], first[::-1])


class ErrorsTest(Base):
    def each(self):
        yield count, NAMES, (3,)
        yield rule, NAMES[:2], ()
        yield area, NAMES[:2], ()

    def test_no_kit(self):
        for call, names, more in self.each():
            for bad in NO_KITS:
                self.raises_both_ways(InvalidKit, bad, call, names, (bad, 0) + more)
            self.raises_both_ways(InvalidKit, NO_KITS[3], call, names, (NO_KITS[3], -1) + (None,) * len(more))

    def test_no_squares(self):
        for call, names, more in self.each():
            for bad in NO_SQUARES:
                self.raises_both_ways(NoSquares, bad[0], call, names, (bad, 0) + more)
                self.raises_both_ways(NoSquares, bad[0], call, names, (bad, -9) + (-1,) * len(more))

    def test_no_state(self):
        for call, names, more in self.each():
            for bad in NO_STATES:
                self.raises_both_ways(InvalidState, bad, call, names, (BLOCK, bad) + more)
            self.raises_both_ways(InvalidState, 9, call, names, (FOUR, 9) + (-1,) * len(more))

    def test_no_zoom(self):
        for bad in NO_ZOOMS:
            self.raises_both_ways(InvalidZoom, bad, count, NAMES, (BLOCK, 0, bad))

    def test_each_is_defined_in_counts(self):
        for name in ("count", "rule", "area"):
            self.assertEqual(getattr(counts, name).__module__, "selfkits.counts")


if __name__ == "__main__":
    unittest.main()
