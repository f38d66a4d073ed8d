"""tables.py: points [1] to [3], what tables do, and the errors of the section."""

import unittest
from fractions import Fraction
from itertools import product as all_of

from samples import Base
from selfkits import tables
from selfkits.errors import InvalidOffset, InvalidPoint, InvalidPower, InvalidTable
from selfkits.tables import axes, determinant, is_growing, is_table, power, product, times, trace, undone

TWO = ((2, 0), (0, 2))
TURN = ((1, -1), (1, 1))
LEVEL = ((1, 1), (0, 2))
BIG = 10 ** 40
GREAT = ((BIG, 3), (-7, BIG + 1))

NO_TABLES = [
    (), ((),), ((1, 0),), ((1, 0), (0, 1), (0, 0)), ((1, 0), (0,)), ((1, 0), ()), ((1,), (0, 1)),
    ((1, 0), (0, 1, 0)), ((1, 0, 0), (0, 1)), ((1, 0, 0), (0, 1, 0)), (1, 0, 0, 1), (1, 0),
    ((True, 0), (0, 2)), ((2, False), (0, 2)), ((2, 0), (False, 2)), ((2, 0), (0, True)),
    (((2, 0), (0, 2)),), ((2, 0), 0), (0, (0, 2)), (((2,), 0), (0, 2)),
    ((2, 0), (0, "2")), ((2, 0), (0, None)), ([2, 0], [0, 2]), [(2, 0), (0, 2)], ((2.0, 0), (0, 2)), None, 7, "ab",
]
NO_OFFSETS = [(), (1,), (1, 2, 3), (True, 0), (0, False), ((1, 0), 0), (0, (1, 1)), ("1", 0), [1, 0], None, 3]
NO_POINTS = [
    (), ((1, 1),), ((1, 1), (0, 1), (0, 1)), (1, 1), ((1, 1), 0), (0, (1, 1)), ((1,), (0, 1)),
    ((1, 1), (0, 1, 1)), ((2, 4), (0, 1)), ((0, 1), (2, 4)), ((0, 2), (0, 1)), ((0, 1), (0, 2)),
    ((1, 0), (0, 1)), ((0, 1), (1, 0)), ((0, 0), (0, 1)), ((1, -2), (0, 1)), ((0, 1), (-1, -2)), ((-3, 3), (0, 1)),
    ((True, 1), (0, 1)), ((1, True), (0, 1)), ((1, 1), (False, 1)), ((1, 1), (0, True)), [(1, 1), (0, 1)], None, 4,
]
NO_POWERS = [-1, -BIG, True, False, (), (2,), "2", None]


def grows(table):
    """By the roots: no number of absolute value 1 or less is a root of x x - trace x + determinant."""
    (a, b), (c, d) = table
    t, s = a + d, a * d - b * c
    if t * t < 4 * s:
        return s > 1
    # Both roots are real: they lie beyond 1 and -1 if the values there, and the middle, say so.
    at_one, at_less = 1 - t + s, 1 + t + s
    if at_one < 0 and at_less < 0:
        return True
    return at_one > 0 and at_less > 0 and abs(t) > 2


def moved_by(table, point):
    (a, b), (c, d) = table
    x, y = [Fraction(*number) for number in point]
    return tuple((told.numerator, told.denominator) for told in (a * x + b * y, c * x + d * y))


class KindsTest(Base):
    def test_tables(self):
        for told in (TWO, TURN, LEVEL, GREAT, ((0, 0), (0, 0)), ((-3, 3), (3, -3)), ((1, 0), (0, 1))):
            self.assertIs(is_table(told), True)
            self.assertIs(is_table(told=told), True)

    def test_no_tables(self):
        for told in NO_TABLES:
            self.assertIs(is_table(told), False, told)
            self.assertIs(is_table(told=told), False, told)
            self.assertIs(is_growing(told), False, told)
            self.assertIs(is_growing(told=told), False, told)

    def test_growing_by_name(self):
        self.assertIs(is_growing(told=TWO), True)
        self.assertIs(is_growing(told=LEVEL), False)

    def test_determinants_at_the_edge(self):
        for table, told in [
            (((1, 1), (1, 1)), False), (((0, 0), (0, 0)), False), (((0, -1), (1, 0)), False),
            (((0, -2), (1, 0)), True), (((0, 1), (1, 0)), False), (((0, 2), (1, 0)), True),
            (((0, 2), (1, 1)), False), (((0, 2), (1, -1)), False), (((2, 0), (0, 0)), False),
        ]:
            self.assertIs(is_growing(table), told, table)

    def test_traces_at_the_edge(self):
        for size in range(-12, 13):
            bound = size if size >= 2 else -size - 2 if size <= -2 else -1
            for t in range(-16, 17):
                # The determinant is size, the trace t.
                table = ((0, -size), (1, t))
                self.assertEqual((determinant(table), trace(table)), (size, t))
                self.assertIs(is_growing(table), abs(t) <= bound, table)

    def test_great_traces_at_the_edge(self):
        for t, told in [(BIG, True), (BIG + 1, False), (-BIG, True), (-BIG - 1, False)]:
            self.assertIs(is_growing(((0, -BIG), (1, t))), told)
        for t, told in [(BIG - 2, True), (BIG - 1, False), (2 - BIG, True), (1 - BIG, False)]:
            self.assertIs(is_growing(((0, BIG), (1, t))), told)

    def test_growing_is_what_the_roots_say(self):
        for a, b, c, d in all_of(range(-4, 5), repeat=4):
            table = ((a, b), (c, d))
            self.assertIs(is_growing(table), grows(table), table)


class WorksTest(Base):
    def test_determinant_and_trace(self):
        for table, size, t in [
            (TWO, 4, 4), (TURN, 2, 2), (LEVEL, 2, 3), (((0, 0), (0, 0)), 0, 0), (((1, 2), (3, -4)), -10, -3),
            (GREAT, BIG * (BIG + 1) + 21, 2 * BIG + 1),
        ]:
            self.assertEqual(determinant(table), size)
            self.assertEqual(determinant(table=table), size)
            self.assertEqual(trace(table), t)
            self.assertEqual(trace(table=table), t)

    def test_times(self):
        self.assertEqual(times(((1, 2), (3, 4)), (5, 6)), (17, 39))
        self.assertEqual(times(table=((1, 2), (3, 4)), offset=(-1, 0)), (-1, -3))
        self.assertEqual(times(((0, 0), (0, 0)), (BIG, BIG)), (0, 0))
        self.assertEqual(times(GREAT, (BIG, -1)), (BIG * BIG - 3, -8 * BIG - 1))

    def test_product(self):
        one, other = ((1, 2), (3, 4)), ((0, 1), (1, 0))
        self.assertEqual(product(one, other), ((2, 1), (4, 3)))
        self.assertEqual(product(other, one), ((3, 4), (1, 2)))
        self.assertEqual(product(one=one, other=other), ((2, 1), (4, 3)))
        self.assertEqual(product(other=one, one=other), ((3, 4), (1, 2)))

    def test_product_does_the_other_first(self):
        for one, other in all_of([TURN, LEVEL, ((1, 2), (3, 4)), GREAT, ((0, 0), (0, 0))], repeat=2):
            for offset in [(0, 0), (1, 0), (0, 1), (-3, 5), (BIG, 1)]:
                self.assertEqual(times(product(one, other), offset), times(one, times(other, offset)))

    def test_power(self):
        for table in (TWO, TURN, LEVEL, GREAT, ((0, 0), (0, 0)), ((1, 2), (3, 4)), ((0, 1), (1, 0))):
            told = ((1, 0), (0, 1))
            for n in range(20):
                self.assertEqual(power(table, n), told)
                self.assertEqual(power(table=table, n=n), told)
                told = product(told, table)

    def test_power_of_great_n(self):
        self.assertEqual(power(((1, 1), (0, 1)), BIG), ((1, BIG), (0, 1)))
        self.assertEqual(power(TWO, 1000), ((2 ** 1000, 0), (0, 2 ** 1000)))

    def test_undone(self):
        self.assertEqual(undone(TURN, ((1, 1), (0, 1))), ((1, 2), (-1, 2)))
        self.assertEqual(undone(table=TWO, point=((2, 3), (-5, 7))), ((1, 3), (-5, 14)))
        self.assertEqual(undone(TWO, ((0, 1), (0, 1))), ((0, 1), (0, 1)))
        self.assertEqual(undone(((0, 2), (1, 0)), ((4, 3), (1, 5))), ((1, 5), (2, 3)))
        self.assertEqual(undone(((0, -2), (-1, 0)), ((4, 3), (1, 5))), ((-1, 5), (-2, 3)))

    def test_undone_comes_back(self):
        points = [((1, 2), (1, 3)), ((-5, 12), (7, 18)), ((9, 1), (-1, 97)), ((0, 1), (3, 4)),
                  ((BIG, BIG + 1), (1, BIG))]
        for table in all_of(all_of(range(-3, 4), repeat=2), repeat=2):
            if is_growing(table):
                for point in points:
                    told = undone(table, point)
                    self.assertEqual(moved_by(table, told), point)
                    for top, bottom in told:
                        self.assertEqual((Fraction(top, bottom).numerator, bottom > 0), (top, True))

    def test_undone_of_great_tables(self):
        point = ((3, 5), (-7, 11))
        self.assertEqual(moved_by(GREAT, undone(GREAT, point)), point)

    def test_axes(self):
        for table, told in [
            (TWO, 1), (((3, 0), (0, -2)), 1), (((0, 2), (1, 0)), 1), (((0, -3), (2, 0)), 1),
            (TURN, 2), (((2, -1), (1, -2)), 2), (((0, -4), (1, 2)), 3), (((3, -1), (3, 3)), 3),
            (((0, -2), (1, 2)), 4), (((0, -3), (1, 3)), 6), (((1, -1), (1, 2)), 6),
            (((2, 1), (0, 2)), None), (((0, -2), (1, 1)), None), (((3, 1), (1, 3)), None),
            (((0, BIG), (1, 0)), 1), (((BIG, -BIG), (BIG, BIG)), 2), (((BIG, 1), (0, BIG)), None),
        ]:
            self.assertEqual(axes(table), told, table)
            self.assertEqual(axes(table=table), told, table)

    def test_axes_is_the_least(self):
        answers = {}
        for table in all_of(all_of(range(-3, 4), repeat=2), repeat=2):
            if is_growing(table):
                told, least = table, None
                for n in range(1, 9):
                    if [row.count(0) for row in told] == [1, 1]:
                        least = n
                        break
                    told = product(told, table)
                self.assertEqual(axes(table), least, table)
                answers[least] = True
        self.assertEqual(sorted(answers, key=str), [1, 2, 3, 4, 6, None])


class ErrorsTest(Base):
    def test_no_table(self):
        for bad in NO_TABLES:
            self.raises(InvalidTable, bad, determinant, bad)
            self.raises(InvalidTable, bad, determinant, table=bad)
            self.raises(InvalidTable, bad, trace, bad)
            self.raises(InvalidTable, bad, trace, table=bad)
            self.raises(InvalidTable, bad, times, bad, (1, 0))
            self.raises(InvalidTable, bad, times, table=bad, offset=(1, 0))
            self.raises(InvalidTable, bad, product, bad, TWO)
            self.raises(InvalidTable, bad, product, TWO, bad)
            self.raises(InvalidTable, bad, product, other=bad, one=TWO)
            self.raises(InvalidTable, bad, power, bad, 2)
            self.raises(InvalidTable, bad, power, table=bad, n=0)
            self.raises(InvalidTable, bad, undone, bad, ((1, 1), (0, 1)))
            self.raises(InvalidTable, bad, undone, table=bad, point=((1, 1), (0, 1)))
            self.raises(InvalidTable, bad, axes, bad)
            self.raises(InvalidTable, bad, axes, table=bad)

    def test_the_first_of_two_from_the_left(self):
        self.raises(InvalidTable, ((1,), (2,)), product, ((1,), (2,)), ((3,), (4,)))
        self.raises(InvalidTable, ((1,), (2,)), product, other=((3,), (4,)), one=((1,), (2,)))

    def test_what_does_not_grow(self):
        for bad in [LEVEL, ((1, 0), (0, 1)), ((0, 0), (0, 0)), ((0, 1), (1, 0)), ((0, 2), (1, 1)), ((1, 0), (0, BIG))]:
            self.raises(InvalidTable, bad, undone, bad, ((1, 1), (0, 1)))
            self.raises(InvalidTable, bad, undone, table=bad, point=((1, 1), (0, 1)))
            self.raises(InvalidTable, bad, axes, bad)
            self.raises(InvalidTable, bad, axes, table=bad)
            # Only these two ask for one that grows.
            self.assertEqual(times(bad, (0, 0)), (0, 0))
            self.assertEqual(power(bad, 1), bad)
            self.assertEqual(product(bad, ((1, 0), (0, 1))), bad)
            self.assertEqual(trace(bad), bad[0][0] + bad[1][1])

    def test_no_offset(self):
        for bad in NO_OFFSETS:
            self.raises(InvalidOffset, bad, times, TWO, bad)
            self.raises(InvalidOffset, bad, times, table=LEVEL, offset=bad)

    def test_no_point(self):
        for bad in NO_POINTS:
            self.raises(InvalidPoint, bad, undone, TWO, bad)
            self.raises(InvalidPoint, bad, undone, table=TURN, point=bad)

    def test_no_power(self):
        for bad in NO_POWERS:
            self.raises(InvalidPower, bad, power, TWO, bad)
            self.raises(InvalidPower, bad, power, table=LEVEL, n=bad)

    def test_a_table_comes_first(self):
        self.raises(InvalidTable, (), times, (), (1,))
        self.raises(InvalidTable, (), times, offset=(1,), table=())
        self.raises(InvalidTable, (), power, (), -1)
        self.raises(InvalidTable, (), power, n=-1, table=())
        self.raises(InvalidTable, LEVEL, undone, LEVEL, (1, 1))
        self.raises(InvalidTable, LEVEL, undone, point=(1, 1), table=LEVEL)


class UnchangedTest(Base):
    def test_arguments_are_as_they_were(self):
        table, other, offset, point = ((1, -1), (1, 1)), ((2, 0), (0, 2)), (1, 0), ((1, 1), (0, 1))
        is_table(table), is_growing(table), determinant(table), trace(table), axes(table)
        times(table, offset), product(table, other), power(table, 5), undone(table, point)
        self.assertEqual((table, other), (((1, -1), (1, 1)), ((2, 0), (0, 2))))
        self.assertEqual((offset, point), ((1, 0), ((1, 1), (0, 1))))

    def test_answers_are_tuples_of_integers(self):
        for told in (times(TURN, (1, 0)), *product(TURN, TWO), *power(TURN, 0), *undone(TURN, ((1, 3), (1, 1)))):
            self.assertIs(type(told), tuple)
            self.assertEqual([type(x) for x in told], [int, int])
        for told in (product(TURN, TWO), power(TURN, 0), power(TURN, 3), undone(TURN, ((1, 3), (1, 1)))):
            self.assertIs(type(told), tuple)

    def test_each_is_defined_in_tables(self):
        for name in ("is_table", "is_growing", "determinant", "trace", "times", "product", "power", "undone", "axes"):
            self.assertEqual(getattr(tables, name).__module__, "selfkits.tables")


if __name__ == "__main__":
    unittest.main()
