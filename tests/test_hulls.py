"""hulls.py: points [9] and [11], greatest heights, boxes and widths, and the errors of the section."""

import unittest
from fractions import Fraction

from samples import (
    ADDRESS, BLOCK, CHAIN, DRAGON, DUST, FOUR, KITS, NO_KITS, NO_STATES, SIDE, STILL, TURN, TWO, Base, fits,
    fraction, grid, is_told_address, leads, point_from, small_kits, told_point, told_walks,
)
from selfkits import hulls
from selfkits.addresses import point_of
from selfkits.errors import InvalidKit, InvalidPaper, InvalidState, InvalidTable, InvalidWay, NoReturn
from selfkits.hulls import box, greatest, is_greatest, returns, width
from selfkits.kits import joined, met, powered, reached
from selfkits.points import is_in

NAMES = ("kit", "state", "way")
FORM = ((int, int), ADDRESS, [[(int, int)]])
THREE = ((3, 0), (0, 3))
GASKET = (TWO, ((((0, 0), 0), ((0, 1), 0), ((1, 0), 0)),))
CROSS = (((0, 2), (1, 0)), ((((0, 0), 1), ((1, 0), 0)), (((0, 1), 0),)))
BACKWARDS = (((-2, 0), (0, -3)), ((((0, 0), 0), ((0, 2), 0), ((1, 1), 0)),))
# Its twelfth power is the first that takes each way to a number above 0 times itself.
TWELFTH = ((0, -3), (1, 3))
SEVERAL = (TURN, (
    (((0, 0), 1), ((1, 0), 2)), (((-1, 0), 0), ((0, 2), 3)), (((1, 1), 1),), (((0, 0), 3), ((2, -1), 0)),
))
SAMPLES = [BLOCK, SIDE, DUST, DRAGON, STILL, FOUR, GASKET, CROSS, BACKWARDS, SEVERAL, CHAIN]
WAYS = [(1, 0), (0, 1), (-1, 0), (0, -1), (1, 1), (2, -1), (-3, -2)]
NO_WAYS = [(0, 0), (), (1,), (1, 0, 0), (True, 0), (1, False), [1, 0], ((1, 0), 0), None, 3, "10", (1, None)]


def stepped(table, way):
    """[9] in its own words: the way as a row times the inverse table."""
    (a, b), (c, d) = table
    size = a * d - b * c
    p, q = way
    return (Fraction(p * d - q * c, size), Fraction(q * a - p * b, size))


def told_course(table, way):
    """The ways behind 0 to m - 1 steps, and c; None if the way does not return."""
    rows = [tuple(map(Fraction, way))]
    for _ in range(12):
        rows.append(stepped(table, rows[-1]))
        share = [rows[-1][at] / way[at] for at in (0, 1) if way[at] != 0][0]
        if share > 0 and rows[-1] == (share * way[0], share * way[1]):
            return rows[:-1], share
    return None


def height(way, point):
    return way[0] * point[0] + way[1] * point[1]


def are_heights(kit, states, way, heights):
    """[9] in its own words: heights, by state and step, are right at each copy's end."""
    rows, share = told_course(kit[0], way)
    many = len(rows)

    def led(state, at):
        return heights[state, at + 1] if at + 1 < many else share * heights[state, 0]

    return all(
        heights[state, at] == max(height(stepped(kit[0], rows[at]), v) + led(i, at) for v, i in kit[1][state])
        for state in states for at in range(many)
    )


def right_greatest(kit, state, way):
    """A judge, by [9] in its own words, of what has the right form."""
    states, many = reached(kit, state), len(told_course(kit[0], way)[0])

    def right(told):
        number, address, rows = told
        if not is_told_address(kit, state, address) or [len(row) for row in rows] != [many] * len(states):
            return False
        for top, bottom in (number,) + sum(rows, ()):
            if bottom < 1 or point_from((Fraction(top, bottom),)) != ((top, bottom),):
                return False
        heights = {(at, n): fraction(told) for at, row in zip(states, rows) for n, told in enumerate(row)}
        point = told_point(kit, state, address)
        return are_heights(kit, states, way, heights) and fraction(number) == heights[state, 0] == height(way, point)

    return right


def all_points(kit, state, most):
    """The points of all addresses of at most so many places."""
    found = set()
    for n in range(1, most + 1):
        for places, states in told_walks(kit, state, n):
            found.update(point_of(kit, state,
                                  (places[:at], places[at:])) for at in range(n) if states[at] == states[-1])
    return [tuple(map(fraction, point)) for point in sorted(found)]


class ReturnsTest(Base):
    def test_by_hand(self):
        for given, told in [
            ((TWO, (1, 2)), (1, (1, 2))), ((TURN, (1, 0)), (8, (1, 16))), ((TURN, (3, -5)), (8, (1, 16))),
            ((((-2, 0), (0, -2)), (1, 0)), (2, (1, 4))), ((((2, 0), (0, 3)), (1, 0)), (1, (1, 2))),
            ((((2, 0), (0, 3)), (0, -1)), (1, (1, 3))), ((((2, 0), (0, 3)), (1, 1)), None),
            ((((2, 0), (0, -3)), (0, 1)), (2, (1, 9))),
            ((((0, 2), (1, 0)), (1, 0)), (2, (1, 2))), ((((0, -2), (1, 0)), (0, 1)), (4, (1, 4))),
            ((((2, 1), (0, 2)), (0, 1)), (1, (1, 2))), ((((2, 1), (0, 2)), (1, 0)), None),
            ((((2, 0), (1, 2)), (1, 0)), (1, (1, 2))),
            ((((0, -4), (1, 2)), (1, 0)), (6, (1, 64))), ((TWELFTH, (1, 0)), (12, (1, 729))),
            ((((1, 2), (2, -1)), (1, 1)), (2, (1, 5))),
            ((((2, -1), (1, 1)), (1, 0)), (12, (1, 729))), ((((0, 3), (-1, -3)), (1, 0)), (12, (1, 729))),
            ((((0, -2), (1, 1)), (1, 0)), None), ((((3, 1), (1, 3)), (1, 1)), (1, (1, 4))),
            ((((3, 1), (1, 3)), (1, -1)), (1, (1, 2))),
            ((((3, 1), (1, 3)), (1, 0)), None), ((((0, -3), (1, 0)), (5, 7)), (4, (1, 9))),
            ((((0, -2), (2, 0)), (1, 1)), (4, (1, 16))),
        ]:
            self.assertEqual(self.both_ways(returns, ("table", "way"), given), told, given)

    def test_as_the_document_words_it(self):
        answers = {}
        for kit in small_kits():
            for way in WAYS + [(1, -1), (10 ** 20, 1)]:
                course = told_course(kit[0], way)
                told = returns(kit[0], way)
                if course is None:
                    self.assertIsNone(told)
                else:
                    self.assertEqual(told, (len(course[0]), point_from((course[1],))[0]))
                    self.all_tuples(told)
                answers[told and told[0]] = True
        self.assertEqual(set(answers), {None, 1, 2, 3, 4, 6, 8, 12})

    def test_turned_about_and_twice(self):
        for kit in small_kits()[::3]:
            for p, q in WAYS:
                told = returns(kit[0], (p, q))
                self.assertEqual([returns(kit[0], way) for way in [(-p, -q), (2 * p, 2 * q), (-7 * p, -7 * q)]],
                                 [told] * 3)

    def test_errors(self):
        for bad in [
            None, 0, (), ((1, 0),), ((1, 0), (0, 1)), ((2, 0), (0, 1)), ((0, 0), (0, 0)), ((1, 1), (0, 2)),
            ((True, 0), (0, 2)),
            [(2, 0), (0, 2)], ((2, 0), (0, 2), (0, 0)), ((0, 1), (2, 1)),
        ]:
            self.raises_both_ways(InvalidTable, bad, returns, ("table", "way"), (bad, (1, 0)))
            self.raises_both_ways(InvalidTable, bad, returns, ("table", "way"), (bad, (0, 0)))
        for bad in NO_WAYS:
            self.raises_both_ways(InvalidWay, bad, returns, ("table", "way"), (TWO, bad))


class GreatestTest(Base):
    def check(self, kit, state, way):
        told = self.both_ways(greatest, NAMES, (kit, state, way))
        self.all_tuples(told)
        self.assertTrue(fits(FORM, told))
        self.assertIs(right_greatest(kit, state, way)(told), True)
        self.assertIs(self.both_ways(is_greatest, NAMES + ("told",), (kit, state, way, told)), True)
        return told

    def test_as_the_document_words_it(self):
        tried = 0
        for kit in SAMPLES + small_kits()[::2]:
            for way in WAYS:
                if returns(kit[0], way) is not None:
                    for state in range(len(kit[1])):
                        told = self.check(kit, state, way)
                        self.assertEqual(len(told[2]), len(reached(kit, state)))
                        tried += 1
        self.assertGreater(tried, 300)

    def test_no_point_is_above(self):
        for kit in SAMPLES:
            for way in WAYS:
                if returns(kit[0], way) is not None:
                    for state in range(len(kit[1])):
                        number, address, _ = greatest(kit, state, way)
                        points = all_points(kit, state, 5 if len(kit[1][state]) < 3 else 3)
                        self.assertLessEqual(max(height(way, point) for point in points), fraction(number))
                        self.assertEqual(height(way, told_point(kit, state, address)), fraction(number))

    def test_by_hand(self):
        for given, number, heights in [
            ((BLOCK, 0, (1, 1)), (2, 1), (((2, 1),),)), ((BLOCK, 0, (-1, -1)), (0, 1), (((0, 1),),)),
            ((DUST, 0, (1, 0)), (1, 1), (((1, 1),),)),
            ((FOUR, 3, (1, 0)), (2, 1), (((2, 1),),)), ((FOUR, 2, (1, 0)), (0, 1), (((0, 1),),)),
            ((STILL, 0, (1, 0)), (0, 1), (((0, 1),) * 8,)),
            ((GASKET, 0, (2, -1)), (2, 1), (((2, 1),),)), ((GASKET, 0, (-1, -1)), (0, 1), (((0, 1),),)),
            # The first, seventh and eighth step of the way are (1/2, 1/2), (1/16, -1/16) and (1/16, 0): these are
            # above 0 at the copy (1, 0), so the number is 5/8 and 1/16 of itself.
            ((DRAGON, 0, (1, 0)), (2, 3), (((2, 3),) + ((1, 6),) * 6 + ((5, 48),),)),
        ]:
            told = greatest(*given)
            self.assertEqual((told[0], told[2]), (number, heights), given)

    def test_each_state_in_its_row(self):
        # The states 0 and 1 are the point (1, 0), the state 2 is (0, 0), the state 3 has points up to (4, 0).
        kit = (TWO, ((((1, 0), 1),), (((1, 0), 1),), (((0, 0), 2),), (((4, 0), 3), ((4, 1), 0))))
        number, address, heights = greatest(kit, 3, (1, 0))
        self.assertEqual((number, address), ((4, 1), ((), (0,))))
        self.assertEqual(heights, (((1, 1),), ((1, 1),), ((4, 1),)))
        self.assertEqual(greatest(kit, 0, (1, 0)), ((1, 1), ((0,), (0,)), (((1, 1),), ((1, 1),))))
        self.assertEqual(greatest(kit, 2, (1, 0)), ((0, 1), ((), (0,)), (((0, 1),),)))

    def test_the_way_twice(self):
        for kit in SAMPLES:
            for p, q in WAYS:
                if returns(kit[0], (p, q)) is not None:
                    once, twice = greatest(kit, 0, (p, q)), greatest(kit, 0, (2 * p, 2 * q))
                    self.assertEqual(fraction(twice[0]), 2 * fraction(once[0]))
                    self.assertEqual([[fraction(told) for told in row] for row in twice[2]],
                                     [[2 * fraction(told) for told in row] for row in once[2]])

    def test_kits_of_kits(self):
        shared = met(BLOCK, 0, 0, (0, 0))
        for kit, state, way in [
            (powered(GASKET, 3), 0, (2, -1)), (powered(DRAGON, 3), 0, (1, 0)),
            (joined(FOUR, ((3, (1, 2)), (1, (-4, 0)))), 4, (-1, 0)),
            (shared, 0, (1, 1)), (shared, 4, (0, 1)), (met(shared, 0, 0, (0, 0)), 0, (3, -1)),
        ]:
            self.check(kit, state, way)
        self.assertEqual(greatest(powered(DRAGON, 3), 0, (1, 0))[0], greatest(DRAGON, 0, (1, 0))[0])
        self.assertEqual(greatest(met(shared, 0, 0, (0, 0)), 0, (3, -1))[0], (3, 1))

    def test_12_steps(self):
        kit = (TWELFTH, ((((0, 0), 0), ((1, 2), 1)), (((-1, 0), 0), ((0, 1), 1), ((2, 2), 0))))
        for way in [(1, 0), (0, -1), (2, 3)]:
            told = self.check(kit, 1, way)
            self.assertEqual([len(row) for row in told[2]], [12, 12])

    def test_many_turns_of_the_best_copies(self):
        many = 40
        kit = (((2, 0), (0, 2)),
               tuple((((at % 7, 0), (at + 1) % many), ((at % 5, 1), (at * 3) % many)) for at in range(many)))
        kit = (kit[0], tuple(tuple(sorted(row)) for row in kit[1]))
        self.check(kit, 0, (1, 1))
        self.check(kit, 7, (-1, 2))


class IsGreatestTest(Base):
    def judge(self, *given):
        return self.judged(lambda other: is_greatest(*given, other), right_greatest(*given), FORM, greatest(*given))

    def test_put_otherwise(self):
        for given in [
            (BLOCK, 0, (1, 1)), (DUST, 0, (1, 0)), (DRAGON, 0, (1, 0)), (FOUR, 3, (0, 1)), (CROSS, 0, (1, 0)),
            (STILL, 0, (0, 1)),
            (BACKWARDS, 0, (1, 0)), (SEVERAL, 1, (1, -1)), (CHAIN, 1, (0, 1)),
        ]:
            counts = self.judge(*given)
            self.assertGreater(min(counts[False], counts[None]), 20)

    def test_right_ones_that_are_not_the_told(self):
        # Along (1, 0) all points (1, y) of the block are as high.
        for address, right in [
            (((), (2,)), True), (((), (3,)), True), (((2, 3, 3), (2, 3)), True), (((), (2, 0)), False),
            (((0,), (2,)), False),
            (((), ()), False), (((), (4,)), False), (((-1,), (2,)), False),
        ]:
            self.assertIs(is_greatest(BLOCK, 0, (1, 0), ((1, 1), address, (((1, 1),),))), right)

    def test_what_is_not_right(self):
        good = ((1, 1), ((), (2,)), (((1, 1),),))
        for told, right in [
            (good, True), (((2, 1),) + good[1:], False), (((2, 2),) + good[1:], False), (((1, 0),) + good[1:], False),
            (good[:2] + ((((2, 1),),),), False), (good[:2] + ((((2, 2),),),), False),
            (good[:2] + ((((1, 0),),),), False),
            (good[:2] + ((((-1, -1),),),), False), (good[:2] + ((),), False), (good[:2] + (((),),), False),
            (good[:2] + ((((1, 1), (1, 1)),),), False), (good[:2] + ((((1, 1),), ((1, 1),)),), False),
            # A number that is too high, with heights as high, is none of a point, and no heights of [9].
            (((2, 1), ((), (2,)), (((2, 1),),)), False),
            # A lower point, and the heights.
            (((0, 1), ((), (0,)), (((1, 1),),)), False), (((1, 1), ((), (0,)), (((1, 1),),)), False),
        ]:
            self.assertIs(is_greatest(BLOCK, 0, (1, 0), told), right, told)

    def test_of_another_form(self):
        good = ((1, 1), ((), (2,)), (((1, 1),),))
        for bad in [
            None, 0, (), good[:2], good + (0,), list(good), (1,) + good[1:], ((1,),) + good[1:],
            ((1, 1, 1),) + good[1:],
            ((True, 1),) + good[1:], ((1, True),) + good[1:], ([1, 1],) + good[1:], (None,) + good[1:],
            (good[0], (), good[2]), (good[0], ((2,),), good[2]), (good[0], ((), (2,), ()), good[2]),
            (good[0], ((), (True,)), good[2]),
            (good[0], ((), [2]), good[2]), (good[0], ((), 2), good[2]), (good[0], [(), (2,)], good[2]),
            (good[0], None, good[2]),
            good[:2] + (None,), good[:2] + (0,), good[:2] + ([((1, 1),)],), good[:2] + ((1,),), good[:2] + (((1, 1),),),
            good[:2] + (((((1,)),),),), good[:2] + ((((1, 1, 1),),),), good[:2] + ((((1, False),),),),
            good[:2] + (([(1, 1)],),),
            ("1",) + good[1:],
        ]:
            self.raises_both_ways(InvalidPaper, bad, is_greatest, NAMES + ("told",), (BLOCK, 0, (1, 0), bad))


class BoxTest(Base):
    def test_by_hand(self):
        for kit, state, told in [
            (BLOCK, 0, ((0, 1), (0, 1), (1, 1), (1, 1))), (SIDE, 0, ((0, 1), (0, 1), (0, 1), (1, 1))),
            (DUST, 0, ((0, 1), (0, 1), (1, 1), (0, 1))), (FOUR, 3, ((0, 1), (0, 1), (2, 1), (1, 1))),
            (STILL, 0, ((0, 1),) * 4),
            (GASKET, 0, ((0, 1), (0, 1), (1, 1), (1, 1))),
            ((THREE, ((((-1, 2), 0), ((1, -1), 0)),)), 0, ((-1, 2), (-1, 2), (1, 2), (1, 1))),
        ]:
            self.assertEqual(self.both_ways(box, ("kit", "state"), (kit, state)), told)
            self.all_tuples(told)

    def test_as_the_document_words_it(self):
        for kit in SAMPLES + small_kits()[::3]:
            if told_course(kit[0], (1, 0)) is not None and told_course(kit[0], (0, 1)) is not None:
                for state in range(len(kit[1])):
                    left, low, right, high = map(fraction, box(kit, state))
                    for told, way in [(-left, (-1, 0)), (-low, (0, -1)), (right, (1, 0)), (high, (0, 1))]:
                        self.assertEqual(told, fraction(greatest(kit, state, way)[0]))
                        p, q = way
                        self.assertEqual(self.both_ways(width, NAMES, (kit, state, way)), width(kit, state, (-p, -q)))
                    self.assertEqual(fraction(width(kit, state, (1, 0))), right - left)
                    self.assertEqual(fraction(width(kit, state, (0, -1))), high - low)

    def test_points_at_the_rims(self):
        for kit in (BLOCK, DUST, GASKET, FOUR, DRAGON, BACKWARDS, CROSS):
            left, low, right, high = map(fraction, box(kit, 0))
            for point in all_points(kit, 0, 4):
                self.assertTrue(left <= point[0] <= right and low <= point[1] <= high)
            for way, told in [((-1, 0), -left), ((0, -1), -low), ((1, 0), right), ((0, 1), high)]:
                point = point_of(kit, 0, greatest(kit, 0, way)[1])
                self.assertIs(is_in(kit, 0, point), True)
                self.assertEqual(height(way, tuple(map(fraction, point))), told)
            for x, y in grid(-2, 2, 3):
                if not (left <= x <= right and low <= y <= high):
                    self.assertIs(is_in(kit, 0, point_from((x, y))), False)

    def test_width(self):
        for kit, state, way, told in [
            (BLOCK, 0, (1, 1), (2, 1)), (BLOCK, 0, (3, -2), (5, 1)), (SIDE, 0, (1, 0), (0, 1)),
            (SIDE, 0, (1, 1), (1, 1)),
            (FOUR, 3, (1, 0), (2, 1)), (FOUR, 3, (-2, 1), (5, 1)), (STILL, 0, (1, 2), (0, 1)),
            (GASKET, 0, (1, 1), (1, 1)),
            (DUST, 0, (1, 1), (1, 1)), ((((2, 0), (0, 3)), ((((0, 0), 0), ((1, 1), 0)),)), 0, (0, 1), (1, 2)),
        ]:
            self.assertEqual(self.both_ways(width, NAMES, (kit, state, way)), told)
            self.assertEqual(fraction(width(kit, state, (2 * way[0], 2 * way[1]))), 2 * fraction(told))

    def test_no_return(self):
        upper, lower = ((2, 1), (0, 2)), ((2, 0), (1, 2))
        # Of the one (1, 0) does not return, but (0, 1) does, of the other it is the other way about, of the rest none.
        for table, way in [(upper, (1, 0)), (lower, (0, 1)), (((0, -2), (1, 1)), (1, 0)), (((3, 1), (1, 3)), (1, 0))]:
            kit = (table, ((((0, 0), 0), ((1, 0), 0)),))
            self.raises_both_ways(NoReturn, way, box, ("kit", "state"), (kit, 0))
        self.assertIsNone(returns(((3, 1), (1, 3)), (0, 1)))
        self.assertEqual(returns(upper, (0, 1)), (1, (1, 2)))
        self.assertEqual(width((upper, ((((0, 0), 0), ((1, 1), 0)),)), 0, (0, 1)), (1, 1))


class ErrorsTest(Base):
    def each(self):
        """Each function of a kit, a state and a way, with its names and what stands behind them."""
        for call in (greatest, width):
            yield call, NAMES, ()
        yield is_greatest, NAMES + ("told",), (0,)

    def test_no_kit(self):
        for bad in NO_KITS:
            for call, names, more in self.each():
                self.raises_both_ways(InvalidKit, bad, call, names, (bad, 0, (1, 0)) + more)
                self.raises_both_ways(InvalidKit, bad, call, names, (bad, -1, None) + more)
            self.raises_both_ways(InvalidKit, bad, box, ("kit", "state"), (bad, 0))
            self.raises_both_ways(InvalidKit, bad, box, ("kit", "state"), (bad, None))

    def test_no_state(self):
        leaning = (((2, 1), (0, 2)), ((((0, 0), 0),),))
        for bad in NO_STATES:
            for call, names, more in self.each():
                self.raises_both_ways(InvalidState, bad, call, names, (BLOCK, bad, (1, 0)) + more)
                self.raises_both_ways(InvalidState, bad, call, names, (BLOCK, bad, (0, 0)) + more)
                self.raises_both_ways(InvalidState, bad, call, names, (leaning, bad, (1, 0)) + more)
            self.raises_both_ways(InvalidState, bad, box, ("kit", "state"), (BLOCK, bad))
            self.raises_both_ways(InvalidState, bad, box, ("kit", "state"), (leaning, bad))

    def test_no_way(self):
        leaning = (((2, 1), (0, 2)), ((((0, 0), 0),),))
        for kit in (BLOCK, leaning):
            for bad in NO_WAYS:
                for call, names, more in self.each():
                    self.raises_both_ways(InvalidWay, bad, call, names, (kit, 0, bad) + more)

    def test_a_way_that_does_not_return(self):
        for table, way in [(((2, 1), (0, 2)), (1, 0)), (((2, 0), (0, 3)), (1, -1)), (((0, -2), (1, 1)), (0, 1))]:
            kit = (table, BLOCK[1])
            for call, names, more in self.each():
                self.raises_both_ways(NoReturn, way, call, names, (kit, 0, way) + more)

    def test_arguments_are_as_they_were(self):
        kit, way = (TURN, ((((0, 0), 1), ((1, 0), 0)), (((0, 0), 0),))), (1, -2)
        told = greatest(kit, 0, way)
        is_greatest(kit, 0, way, told), box(kit, 0), width(kit, 0, way), returns(kit[0], way)
        self.assertEqual(kit, (((1, -1), (1, 1)), ((((0, 0), 1), ((1, 0), 0)), (((0, 0), 0),))))
        self.assertEqual((way, greatest(kit, 0, way)), ((1, -2), told))

    def test_the_address_may_be_passed_on(self):
        for kit in KITS:
            if returns(kit[0], (0, 1)) is not None:
                _, address, _ = greatest(kit, 0, (0, 1))
                self.assertIsNotNone(leads(kit, 0, sum(address, ())))
                self.assertIs(is_in(kit, 0, point_of(kit, 0, address)), True)

    def test_each_is_defined_in_hulls(self):
        for name in ("returns", "greatest", "is_greatest", "box", "width"):
            self.assertEqual(getattr(hulls, name).__module__, "selfkits.hulls")


if __name__ == "__main__":
    unittest.main()
