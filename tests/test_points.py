"""points.py: points [5] and [11], which points are in pictures, all their addresses, and the errors of the section."""

import unittest
from fractions import Fraction
from itertools import product as all_of

from samples import (
    ADDRESS, BLOCK, CHAIN, DRAGON, DUST, FOUR, KITS, NO_KITS, NO_STATES, SIDE, SKEWED, STILL, TURN, TWO, Base, fits,
    fraction, grid, has_point, is_told_address, point_from, small_kits, taken, told_point, told_reach, told_walks,
    without_end,
)
from selfkits import points
from selfkits.addresses import is_address, plain, point_of
from selfkits.errors import InvalidKit, InvalidPaper, InvalidPoint, InvalidState
from selfkits.kits import joined, met, powered
from selfkits.points import addresses, has, is_had, is_in

NAMES = ("kit", "state", "point")
GASKET = (TWO, ((((0, 0), 0), ((0, 1), 0), ((1, 0), 0)),))
# Each point of this row but its ends has endlessly many addresses.
LAPPED = (TWO, ((((0, 0), 0), ((1, 0), 0), ((2, 0), 0)),))
FLIPPED = (((0, 2), (1, 0)), ((((0, 0), 0), ((1, 0), 1)), (((0, 1), 0),)))
CROSSED = (((2, 0), (0, -2)), ((((0, 0), 0), ((0, 1), 0), ((1, 1), 0)),))
# Three points, of which (0, 0) has two addresses.
ENDS = (TWO, (
    (((0, 0), 1), ((0, 0), 2), ((0, 1), 1), ((1, 0), 2)), (((0, 0), 1),), (((0, 0), 2),),
))
NO_POINTS = [
    (), ((1, 1),), ((1, 1), (0, 1), (0, 1)), (1, 1), ((1, 1), 0), (0, (1, 1)), ((1,), (0, 1)), ((1, 1), (0, 1, 1)),
    ((2, 4), (0, 1)), ((0, 1), (2, 4)), ((0, 2), (0, 1)), ((0, 1), (0, 2)), ((1, 0), (0, 1)), ((0, 1), (1, 0)),
    ((0, 0), (0, 1)), ((1, -2), (0, 1)), ((0, 1), (-1, -2)), ((True, 1), (0, 1)), ((1, True), (0, 1)),
    ((1, 1), (False, 1)),
    ((1, 1), (0, True)), [(1, 1), (0, 1)], ([1, 1], (0, 1)), None, 4,
]


def is_told_number(told):
    return fits((int, int), told) and told[1] > 0 and point_from((Fraction(*told),)) == (told,)


FORM = {"in": ("in", ADDRESS), "out": ("out", [((int, (is_told_number, is_told_number)), int)])}


def told_nexts(kit, here):
    """[6] and the section in their own words: the next ones of a (state, point in fractions), within the reach."""
    state, point = here
    x, y = taken(kit[0], point)
    nexts = [((led, (x - p, y - q)), at) for at, ((p, q), led) in enumerate(kit[1][state])]
    return [(later, at) for later, at in nexts if max(map(abs, later[1])) <= told_reach(kit)[0]]


def told_graph(kit, start):
    nexts, row = {}, [start] if max(map(abs, start[1])) <= told_reach(kit)[0] else []
    while row:
        here = row.pop()
        if here not in nexts:
            nexts[here] = told_nexts(kit, here)
            row.extend(later for later, _ in nexts[here])
    return nexts


def behind(ways, node):
    """All nodes to which rows of one way on or more lead."""
    found, row = set(), [node]
    while row:
        for later, _ in ways[row.pop()]:
            if later not in found:
                found.add(later)
                row.append(later)
    return found


def told_addresses(kit, state, point):
    """All plain addresses, None if endlessly many: rows that come to a ring, none of which can be left."""
    start = (state, tuple(map(fraction, point)))
    nexts = told_graph(kit, start)
    lasts = without_end(nexts)
    if start not in lasts:
        return []
    ways = {node: [(later, at) for later, at in nexts[node] if later in lasts] for node in lasts}
    rings = {node for node in lasts if node in behind(ways, node)}
    if any(len(ways[node]) > 1 for node in rings):
        return None
    found, rows = [], [((), start)]
    while rows:
        ahead, node = rows.pop()
        if node not in rings:
            rows.extend((ahead + (at,), later) for later, at in ways[node])
        else:
            ring, (here, at) = (ways[node][0][1],), ways[node][0]
            while here != node:
                here, at = ways[here][0]
                ring += (at,)
            found.append((ahead, ring))
    return sorted(found)


def right_had(kit, state, point):
    """A judge, by the section in its own words, of what has the right form."""
    start, bound = (state, tuple(map(fraction, point))), told_reach(kit)[0]

    def right(told):
        if told[0] == "in":
            return is_told_address(kit, state, told[1]) and told_point(kit, state, told[1]) == start[1]
        numbers = {(at, tuple(map(fraction, here))): number for (at, here), number in told[1]}
        if list(told[1]) != sorted(told[1]) or len(numbers) != len(told[1]):
            return False
        if max(map(abs, start[1])) <= bound and start not in numbers:
            return False
        for here in numbers:
            if not 0 <= here[0] < len(kit[1]) or max(map(abs, here[1])) > bound or numbers[here] < 0:
                return False
            if not all(numbers.get(later, numbers[here]) < numbers[here] for later, _ in told_nexts(kit, here)):
                return False
        return True

    return right


def address_points(kit, state, most):
    """Points of all addresses of at most so many places."""
    found = set()
    for n in range(1, most + 1):
        for places, states in told_walks(kit, state, n):
            for at in range(n):
                if states[at] == states[-1]:
                    found.add(point_of(kit, state, (places[:at], places[at:])))
    return sorted(found)


class HasTest(Base):
    def check(self, kit, state, point):
        given = (kit, state, point)
        told = self.both_ways(has, NAMES, given)
        self.all_tuples(told)
        self.assertTrue(fits(FORM, told))
        self.assertIs(right_had(*given)(told), True)
        self.assertIs(self.both_ways(is_had, NAMES + ("told",), given + (told,)), True)
        self.assertIs(self.both_ways(is_in, NAMES, given), told[0] == "in")
        self.assertIs(has_point(kit, state, tuple(map(fraction, point))), told[0] == "in")
        found = self.both_ways(addresses, NAMES, given)
        self.assertEqual(found, told_addresses(*given))
        if found is not None:
            self.assertIs(type(found), list)
            self.assertEqual(found != [], told[0] == "in")
            for address in found:
                self.all_tuples(address)
                self.assertEqual((point_of(kit, state, address), plain(kit, state, address)), (point, address))
        return "endless" if found is None else len(found)

    def test_grids(self):
        counts = {}
        for kit in (BLOCK, SIDE, DUST, FOUR, GASKET, LAPPED, STILL, ENDS):
            for x, y in grid(0, 1, 4) + grid(-1, 2, 1) + grid(0, 1, 3):
                for state in range(len(kit[1])):
                    many = self.check(kit, state, point_from((x, y)))
                    counts[many] = counts.get(many, 0) + 1
        self.assertEqual(set(counts), {0, 1, 2, 4, "endless"})
        self.assertGreater(min(counts[0], counts[1], counts[2]), 20)
        self.assertGreater(min(counts.values()), 2)

    def test_bottoms_to_12(self):
        for kit in (GASKET, DUST, DRAGON, FLIPPED, CROSSED, CHAIN):
            for bottom in range(5, 13):
                for top in range(-bottom, bottom + 1, 11 if kit == CHAIN else 2):
                    for y in (Fraction(1, bottom), Fraction(top, bottom)):
                        self.check(kit, 0, point_from((Fraction(top, bottom), y)))

    def test_points_of_addresses(self):
        counts = {}
        for kit in [kit for kit in KITS if kit != SKEWED] + [GASKET, FLIPPED, CROSSED, ENDS] + small_kits()[::31]:
            found = address_points(kit, 0, 6 if len(kit[1][0]) < 3 else 3)
            for point in found[::1 + len(found) // 9]:
                self.assertNotEqual(self.check(kit, 0, point), 0)
                for p, q in [(1, 0), (0, -1)]:
                    (x, left), (y, low) = point
                    many = self.check(kit, 0, ((x + p * left, left), (y + q * low, low)))
                    counts[many] = counts.get(many, 0) + 1
        self.assertGreater(counts[0], 40)

    def test_at_and_beyond_the_reach(self):
        for kit in (BLOCK, DUST, SIDE, GASKET, DRAGON, FOUR, LAPPED):
            far = told_reach(kit)[0]
            for x, y in [(far, 0), (0, far), (far, far), (-far, 0), (0, -far)]:
                self.check(kit, 0, ((x, 1), (y, 1)))
            for point in [((far * 12 + 1, 12), (0, 1)), ((0, 1), (-far * 7 - 1, 7)), ((far + 1, 1), (far, 1)),
                          ((9999, 1), (1, 12)), ((0, 1), (-10 ** 40, 3))]:
                self.assertEqual(self.check(kit, 0, point), 0)
                self.assertEqual(has(kit, 0, point), ("out", ()))
                self.assertIs(is_had(kit, 0, point, ("out", ())), True)

    def test_by_hand(self):
        for given, told in [
            ((BLOCK, 0, ((1, 3), (1, 1))), [((), (1, 3))]), ((BLOCK, 0, ((4, 3), (0, 1))), []),
            ((SIDE, 0, ((0, 1), (1, 2))), [((0,), (1,)), ((1,), (0,))]), ((SIDE, 0, ((1, 12), (0, 1))), []),
            ((SIDE, 0, ((0, 1), (1, 3))), [((), (0, 1))]), ((SIDE, 0, ((0, 1), (5, 12))), [((0, 1), (1, 0))]),
            ((BLOCK, 0, ((1, 2), (1, 2))), [((0,), (3,)), ((1,), (2,)), ((2,), (1,)), ((3,), (0,))]),
            ((LAPPED, 0, ((2, 1), (0, 1))), [((), (2,))]), ((LAPPED, 0, ((1, 1), (0, 1))), None),
            ((LAPPED, 0, ((3, 2), (0, 1))), None), ((STILL, 0, ((0, 1), (0, 1))), [((), (0,))]),
            ((ENDS, 0, ((0, 1), (0, 1))), [((0,), (0,)), ((1,), (0,))]), ((ENDS, 0, ((1, 2), (0, 1))), [((3,), (0,))]),
            ((ENDS, 0, ((1, 4), (0, 1))), []), ((GASKET, 0, ((1, 2), (1, 2))), [((1,), (2,)), ((2,), (1,))]),
        ]:
            self.assertEqual(addresses(*given), told, given)
            self.assertIs(is_in(*given), told != [])

    def test_many_addresses_but_not_endlessly(self):
        # Three steps ahead of a point each come to the same place in two ways.
        kit = (TWO, (
            (((0, 0), 1), ((0, 0), 2)), (((0, 0), 3), ((1, 0), 3)), (((0, 0), 3),), (((0, 0), 3),),
        ))
        self.assertEqual(addresses(kit, 0, ((0, 1), (0, 1))), [((0, 0), (0,)), ((1, 0), (0,))])
        self.assertEqual(addresses(kit, 0, ((1, 4), (0, 1))), [((0, 1), (0,))])
        same = (TWO, tuple((((0, 0), at + 1), ((0, 0), at + 2)) for at in range(6)) + ((((0, 0), 6),), (((0, 0), 7),)))
        self.assertEqual(len(addresses(same, 0, ((0, 1), (0, 1)))), 21)
        self.assertEqual(addresses(same, 0, ((0, 1), (0, 1))), told_addresses(same, 0, ((0, 1), (0, 1))))

    def test_addresses_are_new_each_time(self):
        given = (SIDE, 0, ((0, 1), (1, 2)))
        told = addresses(*given)
        told[0] = None
        told.append(1)
        self.assertEqual(addresses(*given), [((0,), (1,)), ((1,), (0,))])
        out = addresses(SIDE, 0, ((1, 1), (1, 1)))
        out.append(2)
        self.assertEqual(addresses(SIDE, 0, ((1, 1), (1, 1))), [])

    def test_kits_of_kits(self):
        for kit in (powered(SIDE, 3), powered(DUST, 3), joined(GASKET, ((0, (1, 0)), (0, (-1, 0)))),
                    met(BLOCK, 0, 0, (1, 0))):
            for x, y in [(0, 0), (63, 63), (21, 63), (7, 0), (63, 27), (189, 126)]:
                self.check(kit, len(kit[1]) - 1, point_from((Fraction(x, 63), Fraction(y, 63))))
        for x, y in grid(-1, 1, 3):
            point = point_from((x, y))
            self.assertIs(is_in(powered(SKEWED, 2), 1, point), is_in(SKEWED, 1, point))

    def test_a_long_row(self):
        point = ((1, 2 ** 200), (0, 1))
        self.assertEqual(addresses(BLOCK, 0, point), sorted([((0,) * 199 + (0,), (2,)), ((0,) * 199 + (2,), (0,))]))
        self.assertEqual(has(GASKET, 0, ((1, 1019), (0, 1)))[0], "in")


class IsHadTest(Base):
    def judge(self, *given):
        return self.judged(lambda other: is_had(*given, other), right_had(*given), FORM, has(*given))

    def test_addresses_put_otherwise(self):
        for given in [
            (BLOCK, 0, ((1, 3), (1, 1))), (BLOCK, 0, ((1, 2), (1, 2))), (SIDE, 0, ((0, 1), (1, 2))),
            (STILL, 0, ((0, 1), (0, 1))),
            (DUST, 0, ((3, 4), (0, 1))), (FOUR, 3, ((2, 1), (1, 1))), (ENDS, 0, ((0, 1), (0, 1))),
            (LAPPED, 0, ((1, 1), (0, 1))),
        ]:
            self.assertEqual(has(*given)[0], "in")
            counts = self.judge(*given)
            self.assertGreater(min(counts[False], counts[None]), 3)

    def test_papers_put_otherwise(self):
        for given in [
            (SIDE, 0, ((1, 4), (1, 2))), (DUST, 0, ((1, 2), (0, 1))), (GASKET, 0, ((3, 5), (4, 5))),
            (FOUR, 2, ((1, 3), (0, 1))),
            (CROSSED, 0, ((1, 2), (0, 1))), (FLIPPED, 0, ((-1, 2), (1, 2))), (BLOCK, 0, ((5, 4), (0, 1))),
            (CHAIN, 0, ((0, 1), (0, 1))),
        ]:
            self.assertEqual(has(*given)[0], "out")
            self.judge(*given)

    def test_papers_by_hand(self):
        # From (0, (-1/2, 1/2)) the side leads to (-1, 1) and (-1, 0), from there beyond the reach.
        given = (SIDE, 0, ((-1, 2), (1, 2)))
        rows = (((0, ((-1, 1), (0, 1))), 0), ((0, ((-1, 1), (1, 1))), 0))
        # Tuples ascend as they compare: (-1, 1) is ahead of (-1, 2).
        last = (0, ((-1, 2), (1, 2)))
        self.assertEqual(has(*given), ("out", rows + ((last, 1),)))
        for paper, right in [
            (rows + ((last, 1),), True), (rows + ((last, 99),), True), (rows + ((last, 0),), False), (rows, False),
            (rows[:1] + ((last, 1),), False), (rows[1:] + ((last, 1),), False), (rows[::-1] + ((last, 1),), False),
            (((last, 1),) + rows, False), (rows + ((last, 1), (last, 2)), False),
            (rows + rows[1:] + ((last, 1),), False), ((), False),
            ((((0, ((-1, 1), (-1, 1))), 0),) + rows + ((last, 1),), True),
            (rows + ((last, 1), ((0, ((0, 1), (2, 1))), 0)), False),
            (rows + ((last, 1), ((1, ((-1, 1), (0, 1))), 0)), False),
            ((((-1, last[1]), 0),) + rows + ((last, 1),), False),
            ((rows[0], (rows[1][0], -1), (last, 1)), False), (rows + ((last, 1), ((0, ((0, 1), (0, 1))), 9)), False),
        ]:
            self.assertIs(is_had(*given, ("out", paper)), right, paper)
            self.assertIs(right_had(*given)(("out", paper)), right, paper)

    def test_right_ones_that_are_not_the_told(self):
        given = (SIDE, 0, ((0, 1), (1, 2)))
        for address, right in [
            (((0,), (1,)), True), (((1,), (0,)), True), (((1, 0, 0), (0, 0)), True), (((0,), (1, 1, 1)), True),
            (((0, 1), (0,)), False), (((), (0, 1)), False), (((0,), ()), False), (((0,), (2,)), False),
            (((-1,), (1,)), False),
        ]:
            self.assertIs(is_had(*given, ("in", address)), right, address)

    def test_of_another_form(self):
        row = ((0, ((1, 2), (1, 2))), 0)
        for bad in [
            None, 0, "in", (), ("in",), ("out",), ("in", ()), ("in", None), ("in", ((0,),)), ("in", ((), (0,), ())),
            ("in", (0, 0)),
            ("in", ((), [0])), ("in", ((), (True,))), ("in", ((None,), (0,))), ("in", ((), (0,)), ()),
            ["in", ((), (0,))],
            ("out", None), ("out", 0), ("out", []), ("out", (0,)), ("out", ((),)), ("out", (row[:1],)),
            ("out", (row + (0,),)),
            ("out", ((row[0], True),)), ("out", ((row[0], (0,)),)), ("out", (((True, row[0][1]), 0),)),
            ("out", (((0,), 0),)),
            ("out", (((0, (1, 2)), 0),)), ("out", (((0, ((1, 2),)), 0),)), ("out", (((0, ((1, 2), (1,))), 0),)),
            ("out", (((0, ((1, 2), (1, True))), 0),)), ("out", (((0, ((1, 2), (1, 2), (1, 2))), 0),)),
            ("out", (((0, 0, 0), 0),)),
            # a pair in the place of a number that is none
            ("out", (((0, ((1, 2), (2, 4))), 0),)), ("out", (((0, ((1, 0), (1, 2))), 0),)),
            ("out", (((0, ((1, 2), (0, 2))), 0),)),
            ("out", (((0, ((-1, -2), (1, 2))), 0),)), ("out", (row, ((0, ((1, 1), (3, 3))), 0))),
            ("In", ((), (0,))), ("", ()), (None, ()), ((), ()), ("meet", ((), (0,)), ((), (0,))),
        ]:
            self.raises_both_ways(InvalidPaper, bad, is_had, NAMES + ("told",), (SIDE, 0, ((1, 2), (1, 2)), bad))


class ErrorsTest(Base):
    def each(self):
        for call in (has, is_in, addresses):
            yield call, NAMES, ()
        yield is_had, NAMES + ("told",), (0,)

    def test_no_kit(self):
        for call, names, more in self.each():
            for bad in NO_KITS:
                self.raises_both_ways(InvalidKit, bad, call, names, (bad, 0, ((0, 1), (0, 1))) + more)
            self.raises_both_ways(InvalidKit, NO_KITS[0], call, names, (NO_KITS[0], -1, None) + more)

    def test_no_state(self):
        for call, names, more in self.each():
            for bad in NO_STATES:
                self.raises_both_ways(InvalidState, bad, call, names, (BLOCK, bad, ((0, 1), (0, 1))) + more)
                self.raises_both_ways(InvalidState, bad, call, names, (BLOCK, bad, ((0, 2), (0, 1))) + more)

    def test_no_point(self):
        for call, names, more in self.each():
            for bad in NO_POINTS:
                self.raises_both_ways(InvalidPoint, bad, call, names, (BLOCK, 0, bad) + more)

    def test_arguments_are_as_they_were(self):
        kit, point = (TURN, ((((0, 0), 1), ((1, 0), 0)), (((0, 0), 0),))), ((1, 3), (-1, 3))
        told = has(kit, 0, point)
        is_had(kit, 0, point, told), is_in(kit, 0, point), addresses(kit, 0, point)
        self.assertEqual(kit, (((1, -1), (1, 1)), ((((0, 0), 1), ((1, 0), 0)), (((0, 0), 0),))))
        self.assertEqual((point, has(kit, 0, point)), (((1, 3), (-1, 3)), told))

    def test_told_addresses_may_be_passed_on(self):
        for kit, point in all_of((BLOCK, GASKET, LAPPED), [((1, 3), (0, 1)), ((1, 1), (0, 1))]):
            word, told = has(kit, 0, point)
            self.assertEqual(word, "in")
            self.assertIs(is_address(kit, 0, told), True)
            self.assertEqual(point_of(kit, 0, plain(kit, 0, told)), point)

    def test_each_is_defined_in_points(self):
        for name in ("has", "is_had", "is_in", "addresses"):
            self.assertEqual(getattr(points, name).__module__, "selfkits.points")


if __name__ == "__main__":
    unittest.main()
