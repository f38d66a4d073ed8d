"""turns.py: points [10] and [11], turns and offsets that keep pictures, and the errors of the section."""

import unittest
from fractions import Fraction
from itertools import product as all_of

from samples import (
    BLOCK, CHAIN, DRAGON, DUST, FOUR, NO_KITS, NO_OFFSETS, NO_STATES, SIDE, STILL, TURN, TWO, Base, grid, point_from,
    small_kits, told_reach,
)
from selfkits import turns
from selfkits.errors import InvalidKit, InvalidOffset, InvalidState, InvalidTurn
from selfkits.hulls import greatest, returns
from selfkits.insides import same
from selfkits.kits import joined, met, powered
from selfkits.makes import folded, moved, side_by_side, turned, turns_of
from selfkits.points import is_in
from selfkits.tables import product, times
from selfkits.turns import is_kept, keeps

NAMES = ("kit", "state", "turn", "offset")
TURNS = turns_of(BLOCK)
BACK, STAY = TURNS[0], TURNS[7]
THREE = ((3, 0), (0, 3))
GASKET = (TWO, ((((0, 0), 0), ((0, 1), 0), ((1, 0), 0)),))
CARPET = (THREE,
          ((((0, 0), 0), ((0, 1), 0), ((0, 2), 0), ((1, 0), 0), ((1, 2), 0), ((2, 0), 0), ((2, 1), 0), ((2, 2), 0)),))
# A hook, which just the turn that changes nothing keeps, and a wheel, which turns keep, but no mirrors.
HOOK = (THREE, ((((0, 0), 0), ((0, 1), 0), ((0, 2), 0), ((1, 0), 0)),))
WHEEL = (THREE, ((((0, 1), 0), ((1, 4), 0), ((2, 2), 0), ((3, 0), 0), ((4, 3), 0)),))
# A table that just the turns about suit, and mirrors.
OBLONG = (((2, 0), (0, 3)), ((((0, 0), 0), ((0, 2), 0), ((1, 1), 0)),))
LEANING = (((0, 2), (1, 0)), ((((0, 0), 1), ((1, 0), 0)), (((0, 1), 0),)))
# The gasket, told with each state twice.
PAIR = (TWO, ((((0, 0), 1), ((0, 1), 0), ((1, 0), 1)), (((0, 0), 0), ((0, 1), 1), ((1, 0), 0))))


def told_keeps(kit, state):
    """The section in its own words: all turns that suit, and all offsets, even if only within both reaches."""
    far = 2 * told_reach(kit)[0]
    return [
        (turn, offset) for turn in turns_of(kit) for offset in all_of(range(-far, far + 1), repeat=2)
        if same(kit, state, turned(kit, turn), state, offset)[0] == "same"
    ]


class KeepsTest(Base):
    def test_by_hand(self):
        for kit, state, told in [
            (BLOCK, 0, list(zip(TURNS, [(1, 1), (1, 0), (1, 1), (1, 0), (0, 1), (0, 0), (0, 1), (0, 0)]))),
            (CARPET, 0, list(zip(TURNS, [(1, 1), (1, 0), (1, 1), (1, 0), (0, 1), (0, 0), (0, 1), (0, 0)]))),
            (SIDE, 0, [(BACK, (0, 1)), (TURNS[1], (0, 0)), (TURNS[6], (0, 1)), (STAY, (0, 0))]),
            (DUST, 0, [(BACK, (1, 0)), (TURNS[1], (1, 0)), (TURNS[6], (0, 0)), (STAY, (0, 0))]),
            (GASKET, 0, [(TURNS[5], (0, 0)), (STAY, (0, 0))]), (PAIR, 1, [(TURNS[5], (0, 0)), (STAY, (0, 0))]),
            (HOOK, 0, [(STAY, (0, 0))]),
            (WHEEL, 0, [(BACK, (2, 2)), (TURNS[3], (2, 0)), (TURNS[4], (0, 2)), (STAY, (0, 0))]),
            (STILL, 0, [(turn, (0, 0)) for turn in turns_of(STILL)]),
            (FOUR, 3, [(BACK, (2, 1)), (TURNS[1], (2, 0)), (TURNS[6], (0, 1)), (STAY, (0, 0))]),
            (FOUR, 2, [(turn, (0, 0)) for turn in TURNS]), (DRAGON, 0, [(BACK, (0, -1)), (STAY, (0, 0))]),
            (OBLONG, 0, [(TURNS[6], (0, 1)), (STAY, (0, 0))]),
        ]:
            self.assertEqual(self.both_ways(keeps, ("kit", "state"), (kit, state)), told)
            for turn, offset in told:
                self.assertIs(self.both_ways(is_kept, NAMES, (kit, state, turn, offset)), True)

    def test_as_the_document_words_it(self):
        kits = [SIDE, DUST, GASKET, PAIR, HOOK, STILL, WHEEL, OBLONG, LEANING, moved(SIDE, 0, (1, 0)),
                moved(GASKET, 0, (0, -1))]
        for kit in kits:
            for state in range(len(kit[1])):
                if told_reach(kit)[0] < 4:
                    self.assertEqual(keeps(kit, state), told_keeps(kit, state))

    def test_points_of_what_is_kept(self):
        for kit in (GASKET, WHEEL, DUST, OBLONG, CARPET):
            for turn, (p, q) in keeps(kit, 0):
                (a, b), (c, d) = turn
                for x, y in grid(-1, 2, 3):
                    there = point_from((a * x + b * y + p, c * x + d * y + q))
                    self.assertIs(is_in(kit, 0, there), is_in(kit, 0, point_from((x, y))))

    def test_what_two_do_one_behind_the_other(self):
        for kit in (BLOCK, SIDE, DUST, GASKET, WHEEL, DRAGON, OBLONG, moved(CARPET, 0, (2, -1))):
            told = dict(keeps(kit, len(kit[1]) - 1))
            self.assertEqual(told[STAY], (0, 0))
            for one, other in all_of(told, repeat=2):
                x, y = times(one, told[other])
                p, q = told[one]
                self.assertEqual(told[product(one, other)], (x + p, y + q))

    def test_another_offset_is_not_kept(self):
        for kit in (BLOCK, SIDE, DUST, GASKET, WHEEL, DRAGON, HOOK, FOUR):
            told = dict(keeps(kit, 0))
            for turn in turns_of(kit):
                x, y = told.get(turn, (0, 0))
                for p, q in [(0, 0), (1, 0), (0, -1), (-1, 1), (10 ** 40, 0), (0, -10 ** 40)]:
                    offset = (x + p, y + q)
                    self.assertIs(is_kept(kit, 0, turn, offset), told.get(turn) == offset)

    def test_moved_kits(self):
        for kit in (SIDE, GASKET, DUST, HOOK, OBLONG):
            for x, y in [(1, 0), (-3, 2)]:
                made = moved(kit, 0, (x, y))
                told = []
                for turn, (p, q) in keeps(kit, 0):
                    # The turned picture is moved by the turned offset, too.
                    left, low = times(turn, (x, y))
                    told.append((turn, (p + x - left, q + y - low)))
                self.assertEqual(keeps(made, len(kit[1])), told)
                for turn, offset in told:
                    self.assertIs(is_kept(made, len(kit[1]), turn, offset), True)

    def test_kits_of_kits(self):
        self.assertEqual(keeps(powered(GASKET, 3), 0), keeps(GASKET, 0))
        self.assertEqual(keeps(met(BLOCK, 0, 0, (1, 0)), 0), [
            (BACK, (2, 1)), (TURNS[1], (2, 0)), (TURNS[6], (0, 1)), (STAY, (0, 0)),
        ])
        self.assertEqual(keeps(joined(BLOCK, ((0, (0, 0)), (0, (1, 0)))), 1), keeps(FOUR, 3))
        double = side_by_side(GASKET, SIDE)
        self.assertEqual([keeps(double, at) for at in (0, 1)], [keeps(GASKET, 0), keeps(SIDE, 0)])
        self.assertEqual(keeps(folded(PAIR), 0), keeps(GASKET, 0))
        for turn in TURNS:
            self.assertEqual(len(keeps(turned(GASKET, turn), 0)), 2)

    def test_new_each_time(self):
        told = keeps(GASKET, 0)
        self.assertIs(type(told), list)
        self.all_tuples(tuple(told))
        told[0] = None
        told.append(5)
        self.assertEqual(keeps(GASKET, 0), [(TURNS[5], (0, 0)), (STAY, (0, 0))])

    def test_large_reaches(self):
        # The offsets are told although both reaches together are far greater than any of them.
        kit = (((3, 3), (-3, -2)), ((((-1, -1), 0), ((0, 0), 0), ((1, 1), 0)),))
        self.assertGreater(told_reach(kit)[0], 20)
        self.assertEqual(keeps(kit, 0), [(BACK, (0, 0)), (STAY, (0, 0))])
        # The point p is (v and the next point) taken back, so turned about and moved by o it is that of the other copy:
        # the table times o, less o, is the sum (2, -3) of both steps.
        kit = (((3, 3), (-3, -2)), ((((0, 0), 0), ((2, -3), 0)),))
        self.assertEqual(keeps(kit, 0), [(BACK, (1, 0)), (STAY, (0, 0))])
        self.assertIs(is_kept(kit, 0, BACK, (1, 0)), True)
        self.assertIs(is_kept(kit, 0, BACK, (1, 1)), False)
        # Here no integers do.
        kit = (((3, 3), (-3, -2)), ((((0, 0), 0), ((2, 2), 0)),))
        self.assertEqual(keeps(kit, 0), [(STAY, (0, 0))])


class TopsTest(Base):
    """What the offsets are found by: each of four heights is less than a quarter off."""

    def test_against_the_greatest_heights(self):
        tried = 0
        for kit in [BLOCK, SIDE, DUST, DRAGON, STILL, FOUR, CHAIN, WHEEL, OBLONG, LEANING] + small_kits()[::2]:
            for state in range(len(kit[1])):
                tops, bottom = turns._tops(kit, state)
                self.assertEqual(sorted(tops), [(-1, 0), (0, -1), (0, 1), (1, 0)])
                for way in tops:
                    if returns(kit[0], way) is not None:
                        tried += 1
                        off = Fraction(tops[way], bottom) - Fraction(*greatest(kit, state, way)[0])
                        self.assertLess(abs(off), Fraction(1, 4))
        self.assertGreater(tried, 200)


class ErrorsTest(Base):
    def test_no_kit(self):
        for bad in NO_KITS:
            self.raises_both_ways(InvalidKit, bad, keeps, ("kit", "state"), (bad, 0))
            self.raises_both_ways(InvalidKit, bad, keeps, ("kit", "state"), (bad, None))
            self.raises_both_ways(InvalidKit, bad, is_kept, NAMES, (bad, 0, STAY, (0, 0)))
            self.raises_both_ways(InvalidKit, bad, is_kept, NAMES, (bad, -1, (), ()))

    def test_no_state(self):
        for bad in NO_STATES:
            self.raises_both_ways(InvalidState, bad, keeps, ("kit", "state"), (BLOCK, bad))
            self.raises_both_ways(InvalidState, bad, is_kept, NAMES, (BLOCK, bad, STAY, (0, 0)))
            self.raises_both_ways(InvalidState, bad, is_kept, NAMES, (BLOCK, bad, (), ()))

    def test_no_turn(self):
        for bad in [((1, 1), (0, 1)), ((1, 0), (1, 0)), ((2, 0), (0, 1)), ((True, 0), (0, 1)), ((0, 0), (0, 1)), (),
                    None, 3, [(1, 0), (0, 1)]]:
            self.raises_both_ways(InvalidTurn, bad, is_kept, NAMES, (BLOCK, 0, bad, (0, 0)))
            self.raises_both_ways(InvalidTurn, bad, is_kept, NAMES, (BLOCK, 0, bad, (0,)))
        for kit in (DRAGON, OBLONG, LEANING, CHAIN):
            for bad in TURNS:
                if bad not in turns_of(kit):
                    self.raises_both_ways(InvalidTurn, bad, is_kept, NAMES, (kit, 0, bad, (0, 0)))
                    self.raises_both_ways(InvalidTurn, bad, is_kept, NAMES, (kit, 0, bad, (True, 0)))

    def test_no_offset(self):
        for bad in NO_OFFSETS:
            self.raises_both_ways(InvalidOffset, bad, is_kept, NAMES, (BLOCK, 0, STAY, bad))

    def test_arguments_are_as_they_were(self):
        kit, turn, offset = (TURN, ((((0, 0), 0), ((1, 0), 0)),)), ((-1, 0), (0, -1)), (0, -1)
        self.assertEqual((keeps(kit, 0)[0], is_kept(kit, 0, turn, offset)), ((turn, offset), True))
        self.assertEqual((kit, turn, offset),
                         (((((1, -1), (1, 1)), ((((0, 0), 0), ((1, 0), 0)),))), ((-1, 0), (0, -1)), (0, -1)))

    def test_each_is_defined_in_turns(self):
        for name in ("keeps", "is_kept"):
            self.assertEqual(getattr(turns, name).__module__, "selfkits.turns")


if __name__ == "__main__":
    unittest.main()
