"""makes.py: points [4], [7], [10] and [11], kits that are made of kits, and the errors of the section."""

import unittest
from itertools import product as all_of

from samples import (
    BLOCK, CHAIN, DRAGON, DUST, FOUR, KITS, NO_KITS, NO_OFFSETS, NO_STATES, SIDE, SKEWED, STILL, TURN, TWO, Base, grid,
    point_from, small_kits,
)
from selfkits import makes
from selfkits.errors import InvalidKit, InvalidOffset, InvalidPair, InvalidState, InvalidTurn
from selfkits.insides import classes, same
from selfkits.kits import is_kit, joined, met, powered, reached
from selfkits.makes import alone, folded, is_turn, moved, side_by_side, turned, turns_of
from selfkits.points import is_in
from selfkits.tables import product, times

TURNS = [
    ((-1, 0), (0, -1)), ((-1, 0), (0, 1)), ((0, -1), (-1, 0)), ((0, -1), (1, 0)),
    ((0, 1), (-1, 0)), ((0, 1), (1, 0)), ((1, 0), (0, -1)), ((1, 0), (0, 1)),
]
BACK, STAY = TURNS[0], TURNS[7]
GASKET = (TWO, ((((0, 0), 0), ((0, 1), 0), ((1, 0), 0)),))
UPRIGHT = (((2, 0), (0, 3)), ((((0, 0), 0), ((0, 2), 0), ((1, 1), 0)),))
LEANING = (((2, 1), (0, 2)), ((((0, 0), 0), ((1, 0), 0), ((1, 1), 0)),))
CROSS = (((0, 2), (1, 0)), ((((0, 0), 1), ((1, 0), 0)), (((0, 1), 0),)))
OTHER = (TWO, (
    (((0, 0), 1), ((0, 1), 1), ((1, 0), 1), ((1, 1), 1)), (((0, 0), 0), ((0, 1), 0), ((1, 0), 0), ((1, 1), 0)),
))
NO_TURNS = [
    ((1, 1), (0, 1)), ((1, 0), (1, 1)), ((1, 0), (1, 0)), ((0, 1), (0, 1)), ((0, 0), (0, 1)), ((1, 0), (0, 0)),
    ((0, 0), (0, 0)),
    ((2, 0), (0, 1)), ((1, 0), (0, 2)), ((0, -2), (1, 0)), ((1, 0), (0, -2)), ((1, -1), (1, 1)), ((-1, 1), (0, 1)),
    ((True, 0), (0, 1)), ((1, 0), (0, True)), ((1, False), (0, 1)), ((0, 1), (True, 0)), ((1, 0),),
    ((1, 0), (0, 1), (0, 0)),
    ((1, 0), (0,)), ((1, 0, 0), (0, 1, 0)), ((1, 0), (0, None)), [(1, 0), (0, 1)], ((1, 0), [0, 1]), (1, 0, 0, 1),
    None, 1, (),
]


def is_same(one, k, other, l, offset=(0, 0)):
    return same(one, k, other, l, offset)[0] == "same"


class TurnsTest(Base):
    def test_the_eight(self):
        for told in all_of(all_of((-2, -1, 0, 1, 2), repeat=2), repeat=2):
            self.assertIs(self.both_ways(is_turn, ("told",), (told,)), told in TURNS)

    def test_none(self):
        for told in NO_TURNS:
            self.assertIs(is_turn(told), False, told)
            self.assertIs(is_turn(told=told), False, told)

    def test_which_suit(self):
        for kit, told in [
            (BLOCK, TURNS), (DUST, TURNS), ((((0, 2), (-2, 0)), BLOCK[1]), [TURNS[0], TURNS[3], TURNS[4], TURNS[7]]),
            (DRAGON, [TURNS[0], TURNS[3], TURNS[4], TURNS[7]]), (UPRIGHT, [TURNS[0], TURNS[1], TURNS[6], TURNS[7]]),
            (LEANING, [BACK, STAY]), (SKEWED, [BACK, STAY]), (CROSS, [BACK, STAY]),
            ((((0, 2), (2, 0)), BLOCK[1]), [TURNS[0], TURNS[2], TURNS[5], TURNS[7]]),
            ((((3, 1), (1, 3)), BLOCK[1]), [TURNS[0], TURNS[2], TURNS[5], TURNS[7]]),
        ]:
            self.assertEqual(self.both_ways(turns_of, ("kit",), (kit,)), tuple(told))

    def test_as_the_document_words_it(self):
        for kit in small_kits():
            told = turns_of(kit)
            self.assertEqual(told, tuple(turn for turn in TURNS if product(kit[0], turn) == product(turn, kit[0])))
            self.assertIn(STAY, told)
            self.assertIn(BACK, told)
            self.all_tuples(told)


class MovedTest(Base):
    def test_by_hand(self):
        names = ("kit", "state", "offset")
        for given, told in [
            ((SIDE, 0, (1, 0)), SIDE[1] + ((((2, 0), 0), ((2, 1), 0)),)), ((SIDE, 0, (0, 0)), SIDE[1] * 2),
            ((FOUR, 2, (-9, 9)), FOUR[1] + ((((-18, 18), 2),),)),
            ((DRAGON, 0, (1, 2)), DRAGON[1] + ((((-1, 3), 0), ((0, 3), 0)),)),
        ]:
            self.assertEqual(self.both_ways(moved, names, given), (given[0][0], told))

    def test_as_joined(self):
        for kit in KITS + small_kits()[::9]:
            for offset in [(0, 0), (3, -1), (-9, 9)]:
                told = moved(kit, len(kit[1]) - 1, offset)
                self.assertEqual(told, joined(kit, ((len(kit[1]) - 1, offset),)))
                self.all_tuples(told)

    def test_the_picture(self):
        for kit in (GASKET, DUST, FOUR, CROSS):
            for x, y in [(1, 0), (-1, 1)]:
                told, last = moved(kit, 0, (x, y)), len(kit[1])
                self.assertTrue(is_same(told, last, kit, 0, (x, y)))
                back = moved(told, last, (-x, -y))
                self.assertTrue(is_same(back, last + 1, kit, 0))
                self.assertEqual(classes(back)[0], (0, last + 1))
                for p, q in grid(-1, 1, 3):
                    self.assertIs(is_in(told, last, point_from((p + x, q + y))), is_in(kit, 0, point_from((p, q))))


class TurnedTest(Base):
    def test_by_hand(self):
        for given, told in [
            ((SIDE, TURNS[5]), ((((0, 0), 0), ((1, 0), 0)),)), ((SIDE, BACK), ((((0, -1), 0), ((0, 0), 0)),)),
            ((SIDE, STAY), SIDE[1]), ((GASKET, TURNS[4]), ((((0, -1), 0), ((0, 0), 0), ((1, 0), 0)),)),
            ((GASKET, TURNS[3]), ((((-1, 0), 0), ((0, 0), 0), ((0, 1), 0)),)),
            ((CROSS, BACK), ((((-1, 0), 0), ((0, 0), 1)), (((0, -1), 0),))),
        ]:
            self.assertEqual(self.both_ways(turned, ("kit", "turn"), given), (given[0][0], told))

    def test_as_the_document_words_it(self):
        for kit in KITS + small_kits()[::5]:
            for turn in turns_of(kit):
                told = turned(kit, turn)
                self.assertIs(is_kit(told), True)
                self.all_tuples(told)
                self.assertEqual([sorted((times(turn, step), led) for step, led in row) for row in kit[1]],
                                 list(map(list, told[1])))
                self.assertEqual(turns_of(told), turns_of(kit))
                back = next(other for other in TURNS if product(other, turn) == STAY)
                self.assertEqual(turned(told, back), kit)

    def test_the_picture(self):
        for kit in (GASKET, DUST, FOUR, CROSS, UPRIGHT):
            for turn in turns_of(kit):
                told = turned(kit, turn)
                for state in range(len(kit[1])):
                    for x, y in grid(-1, 1, 3):
                        (a, b), (c, d) = turn
                        point = point_from((a * x + b * y, c * x + d * y))
                        self.assertIs(is_in(told, state, point), is_in(kit, state, point_from((x, y))))


class AloneTest(Base):
    def test_by_hand(self):
        for given, told in [
            ((FOUR, 3), (tuple((step, 0) for step, _ in FOUR[1][3]),)), ((SIDE, 0), SIDE[1]),
            ((CHAIN, 0), ((((-1, 2), 1),), (((0, 0), 2), ((1, -3), 3)), (((0, 0), 1),), (((-2, 0), 3), ((2, 1), 3)))),
            ((CHAIN, 2), ((((0, 0), 1),), (((0, 0), 0), ((1, -3), 2)), (((-2, 0), 2), ((2, 1), 2)))),
            ((CHAIN, 3), ((((-2, 0), 0), ((2, 1), 0)),)), ((OTHER, 1), OTHER[1]),
        ]:
            self.assertEqual(self.both_ways(alone, ("kit", "state"), given), (given[0][0], told))

    def test_the_sequence_is_breadth_first(self):
        kit = (TWO, (
            (((0, 0), 3), ((2, 0), 2), ((4, 0), 1)), (((0, 0), 5),), (((0, 0), 4),), (((0, 0), 0),), (((0, 0), 4),),
            (((0, 0), 5),),
        ))
        # Met in the sequence 0, 3, 2, 1, 4, 5.
        self.assertEqual(alone(kit, 0)[1], (
            (((0, 0), 1), ((2, 0), 2), ((4, 0), 3)), (((0, 0), 0),), (((0, 0), 4),), (((0, 0), 5),), (((0, 0), 4),),
            (((0, 0), 5),),
        ))
        # Met in the sequence 3, 0, 2, 1, 4, 5.
        self.assertEqual(alone(kit, 3)[1], (
            (((0, 0), 1),), (((0, 0), 0), ((2, 0), 2), ((4, 0), 3)), (((0, 0), 4),), (((0, 0), 5),), (((0, 0), 4),),
            (((0, 0), 5),),
        ))
        self.assertEqual(alone(kit, 2)[1], ((((0, 0), 1),), (((0, 0), 1),)))

    def test_copies_ascend_by_the_new_states(self):
        # Both copies have one step: 1 is met ahead of 2.
        kit = (TWO, ((((0, 0), 1), ((0, 0), 2)), (((1, 0), 2),), (((0, 0), 0), ((0, 0), 1))))
        self.assertEqual(alone(kit, 2)[1], ((((0, 0), 1), ((0, 0), 2)), (((0, 0), 0), ((0, 0), 2)), (((1, 0), 0),)))
        self.assertEqual(alone(kit, 1)[1], ((((1, 0), 1),), (((0, 0), 0), ((0, 0), 2)), (((0, 0), 0), ((0, 0), 1))))

    def test_the_picture(self):
        for kit in KITS + small_kits()[::7]:
            for state in range(len(kit[1])):
                told = alone(kit, state)
                self.assertIs(is_kit(told), True)
                self.assertEqual(len(told[1]), len(reached(kit, state)))
                self.assertEqual(reached(told, 0), tuple(range(len(told[1]))))
                self.assertEqual(alone(told, 0), told)
                self.all_tuples(told)
        for kit in (FOUR, CROSS, OTHER):
            for state in range(len(kit[1])):
                self.assertTrue(is_same(alone(kit, state), 0, kit, state))


class SideBySideTest(Base):
    def test_by_hand(self):
        for given, told in [
            ((BLOCK, SIDE), BLOCK[1] + ((((0, 0), 1), ((0, 1), 1)),)),
            ((SIDE, SIDE), SIDE[1] + ((((0, 0), 1), ((0, 1), 1)),)),
            ((SIDE, OTHER),
             SIDE[1] + (tuple((step, 2) for step, _ in OTHER[1][0]), tuple((step, 1) for step, _ in OTHER[1][1]))),
        ]:
            self.assertEqual(self.both_ways(side_by_side, ("one", "other"), given), (TWO, told))

    def test_the_pictures(self):
        for one, other in [(FOUR, OTHER), (OTHER, GASKET), (CROSS, CROSS), (GASKET, BLOCK)]:
            told, many = side_by_side(one, other), len(one[1])
            self.assertIs(is_kit(told), True)
            self.all_tuples(told)
            self.assertEqual((told[0], told[1][:many], len(told[1])), (one[0], one[1], many + len(other[1])))
            for state in range(many):
                self.assertTrue(is_same(told, state, one, state))
            for state in range(len(other[1])):
                self.assertTrue(is_same(told, many + state, other, state))

    def test_unlike_tables(self):
        names = ("one", "other")
        for one, other in [(BLOCK, DUST), (DRAGON, BLOCK), (BLOCK, (((-2, 0), (0, -2)), BLOCK[1]))]:
            self.raises_both_ways(InvalidPair, (one, other), side_by_side, names, (one, other))


class FoldedTest(Base):
    def test_by_hand(self):
        # States 1 and 3 both are the point (1, 0), which two copies of 1 tell.
        points = (TWO, ((((0, 0), 2),), (((1, 0), 3), ((2, 0), 0)), (((0, 0), 2),), (((2, 0), 0),)))
        for kit, told in [
            (OTHER, BLOCK[1]), (BLOCK, BLOCK[1]), (FOUR, FOUR[1]), (side_by_side(FOUR, FOUR), FOUR[1]),
            # the copies of the least state, led to the classes, each once
            (points, ((((0, 0), 0),), (((1, 0), 1), ((2, 0), 0)))),
            ((TWO, ((((0, 0), 0), ((0, 0), 1), ((0, 1), 0)), (((0, 0), 1), ((0, 1), 0)))), SIDE[1]),
        ]:
            self.assertEqual(self.both_ways(folded, ("kit",), (kit,)), (TWO, told))

    def test_a_needless_copy(self):
        kit = (TWO, ((((0, 0), 0), ((1, 0), 0), ((2, 0), 0)), (((0, 0), 1), ((2, 0), 1))))
        self.assertEqual(folded(kit), (TWO, kit[1][:1]))
        self.assertEqual(folded((TWO,
                                 (tuple((step, 0) for step, _ in kit[1][1]), (((0, 0), 1), ((1, 0), 0), ((2, 0), 1))))),
                         (TWO, ((((0, 0), 0), ((2, 0), 0)),)))

    def test_the_pictures(self):
        kits = [OTHER, FOUR, GASKET, CROSS, side_by_side(OTHER, FOUR), side_by_side(GASKET, GASKET),
                side_by_side(CROSS, CROSS)]
        kits += [moved(moved(kit, 0, (0, 1)), len(kit[1]), (0, -1)) for kit in (BLOCK, GASKET, FOUR, DUST)]
        kits += [met(BLOCK, 0, 0, (1, 0)), met(met(BLOCK, 0, 0, (1, 0)), 0, 0, (0, 0)), powered(OTHER, 2)]
        for kit in kits:
            told, rows = folded(kit), classes(kit)
            self.assertIs(is_kit(told), True)
            self.all_tuples(told)
            self.assertEqual(len(told[1]), len(rows))
            self.assertEqual(folded(told), told)
            self.assertEqual(classes(told), tuple((at,) for at in range(len(rows))))
            for at, row in enumerate(rows):
                for state in row:
                    self.assertTrue(is_same(told, at, kit, state))

    def test_sizes(self):
        for kit, many in [
            (side_by_side(OTHER, BLOCK), 1), (side_by_side(GASKET, OTHER), 2),
            (moved(moved(GASKET, 0, (1, 0)), 1, (-1, 0)), 2),
            (moved(BLOCK, 0, (0, 0)), 1), (side_by_side(FOUR, OTHER), 4),
            (side_by_side(alone(CHAIN, 3), alone(CHAIN, 3)), 1),
        ]:
            self.assertEqual(len(folded(kit)[1]), many)


class ErrorsTest(Base):
    def each(self):
        """Each function of one kit, with its names and right values behind it."""
        return [
            (turns_of, ("kit",), ()), (moved, ("kit", "state", "offset"), (0, (1, 0))),
            (turned, ("kit", "turn"), (BACK,)),
            (alone, ("kit", "state"), (0,)), (folded, ("kit",), ()),
        ]

    def test_no_kit(self):
        for bad in NO_KITS:
            for call, names, more in self.each():
                self.raises_both_ways(InvalidKit, bad, call, names, (bad,) + more)
                self.raises_both_ways(InvalidKit, bad, call, names, (bad,) + (None,) * len(more))
            self.raises_both_ways(InvalidKit, bad, side_by_side, ("one", "other"), (bad, BLOCK))
            self.raises_both_ways(InvalidKit, bad, side_by_side, ("one", "other"), (BLOCK, bad))
        self.raises(InvalidKit, NO_KITS[5], side_by_side, NO_KITS[5], NO_KITS[4])
        self.raises(InvalidKit, NO_KITS[5], side_by_side, other=NO_KITS[4], one=NO_KITS[5])

    def test_no_state(self):
        for bad in NO_STATES:
            self.raises_both_ways(InvalidState, bad, moved, ("kit", "state", "offset"), (BLOCK, bad, (0, 0)))
            self.raises_both_ways(InvalidState, bad, moved, ("kit", "state", "offset"), (BLOCK, bad, ()))
            self.raises_both_ways(InvalidState, bad, alone, ("kit", "state"), (BLOCK, bad))

    def test_no_offset(self):
        for bad in NO_OFFSETS:
            self.raises_both_ways(InvalidOffset, bad, moved, ("kit", "state", "offset"), (BLOCK, 0, bad))

    def test_no_turn(self):
        for bad in NO_TURNS:
            self.raises_both_ways(InvalidTurn, bad, turned, ("kit", "turn"), (BLOCK, bad))
        for kit in (DRAGON, UPRIGHT, LEANING, SKEWED, CROSS):
            for bad in TURNS:
                if bad not in turns_of(kit):
                    self.raises_both_ways(InvalidTurn, bad, turned, ("kit", "turn"), (kit, bad))

    def test_arguments_are_as_they_were(self):
        kit, other = (TURN, ((((0, 0), 0), ((1, 0), 0)),)), (TURN, ((((0, 1), 0),),))
        offset, turn = (1, 2), ((0, 1), (-1, 0))
        is_turn(turn), turns_of(kit), moved(kit, 0, offset), turned(kit, turn), alone(kit, 0), folded(kit)
        side_by_side(kit, other)
        self.assertEqual((kit, other),
                         ((((1, -1), (1, 1)), ((((0, 0), 0), ((1, 0), 0)),)), (((1, -1), (1, 1)), ((((0, 1), 0),),))))
        self.assertEqual((offset, turn), ((1, 2), ((0, 1), (-1, 0))))

    def test_each_is_defined_in_makes(self):
        for name in ("is_turn", "turns_of", "moved", "turned", "alone", "side_by_side", "folded"):
            self.assertEqual(getattr(makes, name).__module__, "selfkits.makes")

    def test_what_is_made_may_be_passed_on(self):
        told = folded(side_by_side(moved(STILL, 0, (1, 1)), alone(turned(STILL, TURNS[3]), 0)))
        self.assertEqual(told, (TURN, ((((0, 0), 0),), (((0, 2), 0),))))


if __name__ == "__main__":
    unittest.main()
