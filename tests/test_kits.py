"""kits.py: points [4] to [7], what kits are, what is made of them, and the errors of the section."""

import unittest
from fractions import Fraction

from samples import (
    BLOCK, CHAIN, DRAGON, DUST, FOUR, KITS, NO_KITS, NO_OFFSETS, ONE_COPY, ONE_PART, SIDE, SKEWED, STILL, TURN, TWO,
    Base,
    grid, has_point, small_kits, told_reach, told_walks,
)
from selfkits import kits
from selfkits.errors import InvalidKit, InvalidOffset, InvalidPair, InvalidPower, InvalidState, NoMeeting
from selfkits.graphs import lasting
from selfkits.kits import graph_of, is_kit, joined, met, near, powered, reach, reached
from selfkits.tables import power, product, times


def told_powered(kit, n):
    rows = []
    for state in range(len(kit[1])):
        copies = set()
        for places, states in told_walks(kit, state, n):
            x = y = 0
            for i in range(1, n + 1):
                step = kit[1][states[i - 1]][places[i - 1]][0]
                p, q = times(power(kit[0], n - i), step)
                x, y = x + p, y + q
            copies.add(((x, y), states[-1]))
        rows.append(tuple(sorted(copies)))
    return (power(kit[0], n), tuple(rows))


def told_met(kit, k, l, offset):
    """[7] in its own words: all triples within both reaches; None if they do not meet."""
    bound = 2 * told_reach(kit)[0]
    nexts, row = {}, [(k, l, offset)] if max(map(abs, offset)) <= bound else []
    while row:
        here = row.pop()
        if here not in nexts:
            x, y = times(kit[0], here[2])
            nexts[here] = set()
            for step, i in kit[1][here[0]]:
                for (p, q), j in kit[1][here[1]]:
                    later = (i, j, (x + p - step[0], y + q - step[1]))
                    if max(map(abs, later[2])) <= bound:
                        nexts[here].add((later, step))
                        row.append(later)
    lasts = set(nexts)
    while True:
        fewer = {here for here in lasts if any(later in lasts for later, _ in nexts[here])}
        if fewer == lasts:
            break
        lasts = fewer
    if (k, l, offset) not in lasts:
        return None
    sequence, places = [(k, l, offset)], {(k, l, offset): 0}
    for here in sequence:
        for later in sorted({later for later, _ in nexts[here] if later in lasts}):
            if later not in places:
                places[later] = len(sequence)
                sequence.append(later)
    return (kit[0], tuple(
        tuple(sorted({(step, places[later]) for later, step in nexts[here] if later in lasts}))
        for here in sequence
    ))


class IsKitTest(Base):
    def test_right_kits(self):
        for kit in KITS + small_kits():
            self.assertIs(is_kit(kit), True)
            self.assertIs(is_kit(told=kit), True)

    def test_beyond_the_bounds_for_callers(self):
        great = 10 ** 30
        self.assertIs(is_kit((((great, 0), (0, 7)), ((((-great, great), 0),),))), True)
        self.assertIs(is_kit((TWO, tuple((((0, 0), at), ((0, 1), 11)) for at in range(12)))), True)
        self.assertIs(is_kit((TWO, (tuple(((x, y), 0) for x in range(9) for y in range(9)),))), True)

    def test_copies_of_one_step(self):
        self.assertIs(is_kit((TWO, ((((0, 0), 0), ((0, 0), 1)), ONE_COPY))), True)

    def test_no_kits(self):
        for told in NO_KITS:
            self.assertIs(is_kit(told), False, told)
            self.assertIs(is_kit(told=told), False, told)


class ReachTest(Base):
    def test_at_the_first_power(self):
        self.assertEqual([reach(kit) for kit in (BLOCK, SIDE, DUST, FOUR)], [1, 1, 1, 2])
        self.assertEqual(reach(kit=BLOCK), 1)
        self.assertEqual(reach((((3, 0), (0, -3)), ((((-4, 1), 0),),))), 2)
        self.assertEqual(reach((((4, 0), (0, 4)), ((((0, 4), 0),),))), 2)
        self.assertEqual(reach((((5, 0), (0, 5)), ((((0, -4), 0),),))), 1)

    def test_at_a_later_power(self):
        # The sizes of the inverse of TURN are 1, 1/2: the reach is 3/2 by 1/2.
        self.assertEqual(reach(DRAGON), 3)
        self.assertEqual(told_reach(DRAGON), (3, 2))
        self.assertEqual(reach((((0, 2), (1, 0)), ((((1, 0), 0),),))), 3)
        # The sizes are 3/2, 1, 3/4: 13/4 by 1/4.
        kit = (((2, 1), (-2, 0)), ((((0, 1), 0),),))
        self.assertEqual(told_reach(kit), (17, 3))
        self.assertEqual(reach(kit), 17)
        self.assertEqual(reach((((3, 3), (-3, -2)), ((((4, -4), 0),),))), 104)

    def test_a_size_of_just_1_is_not_below(self):
        self.assertEqual(told_reach((((1, 1), (-1, 1)), ((((1, 0), 0),),)))[1], 2)

    def test_steps_all_at_nothing(self):
        for kit in (STILL, (TWO, (ONE_COPY, ONE_COPY)), (((2, 1), (-2, 0)), (ONE_COPY,))):
            self.assertEqual(reach(kit), 0)

    def test_all_states_count(self):
        self.assertEqual(reach((TWO, (ONE_COPY, (((0, -3), 1),)))), 3)

    def test_as_the_document_words_it(self):
        for kit in KITS + small_kits():
            self.assertEqual(reach(kit), told_reach(kit)[0], kit)

    def test_of_great_numbers(self):
        great = 10 ** 40
        self.assertEqual(reach((TWO, ((((great, -great - 1), 0),),))), great + 1)
        kit = (((great, 1), (0, great)), ((((7, great * great), 0),),))
        self.assertEqual(reach(kit), told_reach(kit)[0])

    def test_errors(self):
        for bad in NO_KITS:
            self.raises(InvalidKit, bad, reach, bad)
            self.raises(InvalidKit, bad, reach, kit=bad)


class ReachedTest(Base):
    def test_ordinary(self):
        self.assertEqual([reached(CHAIN, state) for state in range(4)], [(0, 1, 2, 3), (1, 2, 3), (1, 2, 3), (3,)])
        self.assertEqual([reached(FOUR, state) for state in range(4)], [(0,), (1,), (2,), (3,)])
        self.assertEqual(reached(kit=BLOCK, state=0), (0,))
        self.assertEqual(reached(SKEWED, 1), (0, 1))

    def test_itself_although_no_walk_leads_back(self):
        kit = (TWO, ((((0, 0), 0),), (((0, 0), 0),), (((0, 0), 1), ((1, 0), 0))))
        self.assertEqual([reached(kit, state) for state in range(3)], [(0,), (0, 1), (0, 1, 2)])

    def test_ascending(self):
        kit = (TWO, ((((0, 0), 3),), (((0, 0), 2),), (((0, 0), 0),), (((0, 0), 1),)))
        for state in range(4):
            self.assertEqual(reached(kit, state), (0, 1, 2, 3))

    def test_a_long_row(self):
        many = 500
        kit = (TWO, tuple((((0, 0), (at + 1) % many),) for at in range(many)))
        self.assertEqual(reached(kit, 250), tuple(range(many)))

    def test_errors(self):
        for bad in NO_KITS:
            self.raises(InvalidKit, bad, reached, bad, 0)
            self.raises(InvalidKit, bad, reached, kit=bad, state=-1)
        for bad in [1, -1, 10 ** 30, True, False, None, (0,), "0"]:
            self.raises(InvalidState, bad, reached, BLOCK, bad)
            self.raises(InvalidState, bad, reached, kit=BLOCK, state=bad)
        self.raises(InvalidState, 4, reached, FOUR, 4)


class PoweredTest(Base):
    def test_the_first_power_is_the_kit(self):
        for kit in KITS:
            self.assertEqual(powered(kit, 1), kit)

    def test_by_hand(self):
        told = (((4, 0), (0, 4)), (tuple(((0, y), 0) for y in range(4)),))
        self.assertEqual(powered(SIDE, 2), told)
        self.assertEqual(powered(kit=SIDE, n=2), told)
        told = (((8, 0), (0, 8)), (tuple(((x, y), 0) for x in range(8) for y in range(8)),))
        self.assertEqual(powered(BLOCK, 3), told)
        # The first step is moved by the table, the second one is not.
        kit = (((0, 2), (1, 0)), ((((1, 0), 1),), (((0, 3), 0),)))
        self.assertEqual(powered(kit, 2), (TWO, ((((0, 4), 0),), (((7, 0), 1),))))

    def test_walks_that_come_to_the_same_copy(self):
        kit = (TWO, ((((0, 0), 0), ((1, 0), 0), ((2, 0), 0)),))
        self.assertEqual(powered(kit, 2)[1], (tuple(((x, 0), 0) for x in range(7)),))
        self.assertEqual(powered(kit, 3)[1], (tuple(((x, 0), 0) for x in range(15)),))
        kit = (TWO, ((((0, 0), 1), ((0, 0), 2)), (((0, 0), 0),), (((0, 0), 0), ((0, 0), 1))))
        self.assertEqual(powered(kit, 2)[1][0], (((0, 0), 0), ((0, 0), 1)))

    def test_as_the_document_words_it(self):
        for kit in KITS + small_kits():
            for n in (1, 2, 3):
                told = powered(kit, n)
                self.assertEqual(told, told_powered(kit, n))
                self.assertIs(is_kit(told), True)

    def test_somewhat_beyond(self):
        self.assertEqual(powered(SIDE, 5), told_powered(SIDE, 5))

    def test_the_pictures_are_the_same(self):
        for kit in (DUST, CHAIN, FOUR):
            for point in grid(-1, 2, 3):
                for state in range(len(kit[1])):
                    self.assertEqual(has_point(powered(kit, 2), state, point), has_point(kit, state, point))

    def test_errors(self):
        for bad in NO_KITS:
            self.raises(InvalidKit, bad, powered, bad, 1)
            self.raises(InvalidKit, bad, powered, kit=bad, n=0)
        for bad in [0, -1, -10 ** 30, True, False, None, (1,), "1"]:
            self.raises(InvalidPower, bad, powered, BLOCK, bad)
            self.raises(InvalidPower, bad, powered, kit=BLOCK, n=bad)


class JoinedTest(Base):
    def test_one_part(self):
        told = (TWO, SIDE[1] + ((((2, 0), 0), ((2, 1), 0)),))
        self.assertEqual(joined(SIDE, ((0, (1, 0)),)), told)
        self.assertEqual(joined(kit=SIDE, parts=((0, (1, 0)),)), told)
        self.assertEqual(joined(BLOCK, ((0, (0, 0)),))[1], BLOCK[1] * 2)

    def test_several_parts(self):
        told = joined(FOUR, ((2, (9, -9)), (1, (0, -1))))
        self.assertEqual(told, (TWO, FOUR[1] + ((((0, -2), 1), ((0, -1), 1), ((18, -18), 2)),)))
        told = joined(DRAGON, ((0, (1, 2)), (0, (0, 1))))
        self.assertEqual(told[1][1], (((-1, 1), 0), ((-1, 3), 0), ((0, 1), 0), ((0, 3), 0)))

    def test_a_part_twice(self):
        once = joined(SIDE, ((0, (1, 0)),))
        self.assertEqual(joined(SIDE, ((0, (1, 0)), (0, (1, 0)))), once)
        # Unlike parts can have copies in common, too.
        kit = (TWO, (ONE_COPY, (((0, 0), 0), ((1, 0), 1))))
        self.assertEqual(joined(kit, ((0, (0, 0)), (1, (0, 0))))[1][2], (((0, 0), 0), ((1, 0), 1)))

    def test_it_is_a_kit(self):
        for kit in KITS + small_kits():
            told = joined(kit, ((0, (-9, 9)), (len(kit[1]) - 1, (0, 0)), (0, (3, -1))))
            self.assertIs(is_kit(told), True)
            self.assertEqual((told[0], told[1][:-1]), kit)

    def test_the_picture_is_that_of_the_parts(self):
        for kit, parts in [(FOUR, ((1, (1, 0)), (2, (-1, 1)), (3, (0, -1)))), (DUST, ((0, (1, 0)), (0, (-1, 1))))]:
            told = joined(kit, parts)
            for x, y in grid(-2, 3, 2) + [(Fraction(1, 3), Fraction(0)), (Fraction(4, 3), Fraction(0))]:
                among = any(has_point(kit, state, (x - p, y - q)) for state, (p, q) in parts)
                self.assertIs(has_point(told, len(kit[1]), (x, y)), among)

    def test_errors(self):
        for bad in NO_KITS:
            self.raises(InvalidKit, bad, joined, bad, ((0, (0, 0)),))
            self.raises(InvalidKit, bad, joined, kit=bad, parts=())
        for bad in [1, -1, True, False, None, (0,)]:
            self.raises(InvalidState, bad, joined, BLOCK, ((bad, (0, 0)),))
            self.raises(InvalidState, bad, joined, kit=BLOCK, parts=((0, (0, 0)), (bad, (1, 0))))
        for bad in NO_OFFSETS:
            self.raises(InvalidOffset, bad, joined, BLOCK, ((0, bad),))
            self.raises(InvalidOffset, bad, joined, kit=BLOCK, parts=((0, (0, 0)), (0, bad)))
        self.raises(InvalidPair, (), joined, BLOCK, ())
        self.raises(InvalidPair, (), joined, kit=BLOCK, parts=())

    def test_of_several_errors(self):
        self.raises(InvalidState, 7, joined, BLOCK, ((0, (0, 0)), (7, (0, 0)), (-1, (0, 0))))
        self.raises(InvalidOffset, (2,), joined, BLOCK, ((0, (1, 1)), (0, (2,)), (0, (3,))))
        # A state is due ahead of an offset that stands left of it.
        self.raises(InvalidState, 5, joined, BLOCK, ((0, (1,)), (5, (0, 0))))
        self.raises(InvalidState, 5, joined, BLOCK, ((5, (1,)),))
        # Both are due ahead of the form of the whole.
        self.raises(InvalidState, 5, joined, BLOCK, ((0, (1,)), 3, (5, (0, 0))))
        self.raises(InvalidOffset, (1,), joined, BLOCK, (3, (0, (1,))))

    def test_what_has_no_form_of_parts(self):
        for bad in [None, 0, (0,), ((0, (0, 0)), 0), ((0, (0, 0), 1),), [(0, (0, 0))]]:
            self.raises(InvalidPair, bad, joined, BLOCK, bad)


class MetTest(Base):
    def test_by_hand(self):
        told = (TWO, (
            (((1, 0), 0), ((1, 0), 2), ((1, 1), 0), ((1, 1), 1)),
            (((1, 0), 1),),
            (((1, 1), 2),),
        ))
        self.assertEqual(met(BLOCK, 0, 0, (1, 0)), told)
        self.assertEqual(met(kit=BLOCK, k=0, l=0, offset=(1, 0)), told)
        self.assertEqual(met(BLOCK, 0, 0, (1, 1)), (TWO, ((((1, 1), 0),),)))
        self.assertEqual(met(BLOCK, 0, 0, (-1, -1)), (TWO, ((((0, 0), 0),),)))
        self.assertEqual(met(STILL, 0, 0, (0, 0)), STILL)

    def test_the_sequence_is_breadth_first_and_ascending(self):
        nine = ((9, 0), (0, 9))
        # Copies lie so far apart that each has a point in common with itself alone.
        kit = (nine, (
            (((0, 0), 3), ((2, 0), 2), ((4, 0), 1)),
            (((0, 0), 5),),
            (((0, 0), 4),),
            (((0, 0), 0),),
            (((0, 0), 4),),
            (((0, 0), 5),),
        ))
        # So its states are met in the sequence 0, 1, 2, 3, 5, 4.
        told = (nine, (
            (((0, 0), 3), ((2, 0), 2), ((4, 0), 1)),
            (((0, 0), 4),),
            (((0, 0), 5),),
            (((0, 0), 0),),
            (((0, 0), 4),),
            (((0, 0), 5),),
        ))
        self.assertEqual(met(kit, 0, 0, (0, 0)), told)
        # From the state 3 on the sequence is 3, 0, 1, 2, 5, 4.
        told = (nine, (
            (((0, 0), 1),),
            (((0, 0), 0), ((2, 0), 3), ((4, 0), 2)),
            (((0, 0), 4),),
            (((0, 0), 5),),
            (((0, 0), 4),),
            (((0, 0), 5),),
        ))
        self.assertEqual(met(kit, 3, 3, (0, 0)), told)

    def test_ends_are_left_out(self):
        # Both corners of the row only meet at their far ends, all other pairs of copies end.
        row = (((3, 0), (0, 3)), ((((0, 0), 0), ((1, 0), 0), ((2, 0), 0)),))
        self.assertEqual(met(row, 0, 0, (1, 0)), (((3, 0), (0, 3)), ((((2, 0), 0),),)))

    def test_the_pair_need_not_be_one_state(self):
        self.assertEqual(met(FOUR, 0, 1, (1, 0)), told_met(FOUR, 0, 1, (1, 0)))
        self.assertEqual(met(FOUR, 2, 0, (0, 0)), (TWO, ((((0, 0), 0),),)))
        # This point has two addresses in the picture of 3.
        told = (TWO, ((((0, 0), 2), ((2, 0), 1)), (((0, 0), 1),), (((2, 0), 2),)))
        self.assertEqual(met(FOUR, 3, 2, (1, 0)), told)

    def test_no_meeting(self):
        for kit, k, l, offset in [
            (BLOCK, 0, 0, (2, 0)), (BLOCK, 0, 0, (0, -2)), (SIDE, 0, 0, (1, 0)), (DUST, 0, 0, (0, 1)),
            (FOUR, 2, 2, (1, 0)), (STILL, 0, 0, (1, 0)), (STILL, 0, 0, (0, -1)), (FOUR, 1, 0, (1, 0)),
        ]:
            self.assertIsNone(told_met(kit, k, l, offset))
            self.raises(NoMeeting, (k, l, offset), met, kit, k, l, offset)
            self.raises(NoMeeting, (k, l, offset), met, kit=kit, k=k, l=l, offset=offset)

    def test_an_offset_beyond_both_reaches(self):
        for offset in [(3, 0), (0, -3), (-9, 9), (10 ** 40, 0), (0, -10 ** 40)]:
            self.raises(NoMeeting, (0, 0, offset), met, BLOCK, 0, 0, offset)

    def test_as_the_document_words_it(self):
        near_ones = [kit for kit in small_kits()[::2] if reach(kit) <= 8]
        self.assertGreater(len(near_ones), 60)
        for kit in [BLOCK, SIDE, DUST, DRAGON, STILL, FOUR] + near_ones:
            last = len(kit[1]) - 1
            for offset in [(0, 0), (1, 0), (-1, 1), (2, -3)]:
                told = told_met(kit, 0, last, offset)
                if told is None:
                    self.raises(NoMeeting, (0, last, offset), met, kit, 0, last, offset)
                else:
                    self.assertEqual(met(kit, 0, last, offset), told)
                    self.assertIs(is_kit(told), True)

    def test_the_picture_is_what_both_share(self):
        for kit, k, l, offset in [
            (BLOCK, 0, 0, (1, 0)), (BLOCK, 0, 0, (0, 0)), (FOUR, 0, 3, (-1, 0)), (FOUR, 3, 0, (1, 1)),
            (FOUR, 3, 1, (1, -1)), (DUST, 0, 0, (0, 0)), (DUST, 0, 0, (-1, 0)), (DRAGON, 0, 0, (0, 1)),
        ]:
            told = met(kit, k, l, offset)
            for x, y in grid(-2, 2, 2) + grid(0, 1, 3):
                both = has_point(kit, k, (x, y)) and has_point(kit, l, (x - offset[0], y - offset[1]))
                self.assertIs(has_point(told, 0, (x, y)), both)

    def test_errors(self):
        for bad in NO_KITS:
            self.raises(InvalidKit, bad, met, bad, 0, 0, (0, 0))
            self.raises(InvalidKit, bad, met, kit=bad, k=-1, l=9, offset=())
        for bad in [1, -1, True, False, None, (0,)]:
            self.raises(InvalidState, bad, met, BLOCK, bad, 0, (0, 0))
            self.raises(InvalidState, bad, met, BLOCK, 0, bad, (0, 0))
            self.raises(InvalidState, bad, met, kit=BLOCK, k=0, l=bad, offset=(0, 0))
        for bad in NO_OFFSETS:
            self.raises(InvalidOffset, bad, met, BLOCK, 0, 0, bad)
            self.raises(InvalidOffset, bad, met, kit=BLOCK, k=0, l=0, offset=bad)

    def test_of_several_errors(self):
        self.raises(InvalidState, 6, met, BLOCK, 6, 7, (0,))
        self.raises(InvalidState, 6, met, BLOCK, l=7, k=6, offset=(0, 0))
        self.raises(InvalidState, 7, met, BLOCK, 0, 7, (0,))
        self.raises(InvalidState, 7, met, BLOCK, 0, 7, (99, 99))
        self.raises(InvalidOffset, (99, True), met, BLOCK, 0, 0, (99, True))


class NearTest(Base):
    """What met leaves out from the start, of kits alike and unlike."""

    def test_by_hand(self):
        wide, high = (TWO, ((((3, 0), 0),),)), (TWO, ((((0, 3), 0),),))
        self.assertEqual(near(BLOCK, BLOCK), (1, 1))
        self.assertEqual(near(one=SIDE, other=SIDE), (0, 1))
        self.assertEqual([near(SIDE, BLOCK), near(BLOCK, SIDE)], [(1, 1), (1, 1)])
        self.assertEqual([near(wide, BLOCK), near(BLOCK, wide)], [(3, 1), (3, 1)])
        self.assertEqual([near(high, BLOCK), near(BLOCK, high)], [(1, 3), (1, 3)])
        self.assertEqual(near(STILL, STILL), (0, 0))

    def test_it_is_at_most_both_reaches(self):
        for one in KITS + small_kits():
            for other in [one, (one[0], ONE_PART)]:
                for bound in near(one, other):
                    self.assertLessEqual(bound, reach(one) + reach(other))
                    self.assertGreaterEqual(bound, 0)

    def test_no_triple_that_lasts_is_left_out(self):
        for one in [BLOCK, SIDE, DUST, DRAGON, STILL, FOUR] + [kit for kit in small_kits()[::5] if reach(kit) <= 8]:
            for other in [(one[0], ONE_PART), one]:
                most = reach(one) + reach(other)
                for offset in [(0, 0), (1, 0), (-1, 1), (0, -2)]:
                    start = (0, 0, offset)
                    told = lasting(graph_of(one, other, [start], (most, most)))
                    self.assertEqual(lasting(graph_of(one, other, [start], near(one, other))), told)


class MadeKitsTest(Base):
    def test_made_kits_may_be_passed_on(self):
        shared = met(BLOCK, 0, 0, (1, 0))
        self.assertEqual(reach(shared), 1)
        self.assertEqual(reached(shared, 0), (0, 1, 2))
        self.assertEqual(met(shared, 1, 0, (0, 0)), (TWO, ((((1, 0), 0),),)))
        self.assertEqual(powered(joined(shared, ((1, (0, 0)), (2, (0, 0)))), 2)[1][3], (((3, 0), 1), ((3, 3), 2)))
        self.assertEqual(len(met(powered(BLOCK, 3), 0, 0, (0, 1))[1]), 3)

    def test_arguments_are_as_they_were(self):
        kit = (TWO, ((((0, 0), 0), ((0, 1), 0)), (((0, 0), 1), ((1, 0), 0))))
        parts, offset = ((0, (1, 0)), (1, (0, 0))), (0, 1)
        is_kit(kit), reach(kit), reached(kit, 1), powered(kit, 3), joined(kit, parts), met(kit, 0, 1, offset)
        self.assertEqual(kit, (((2, 0), (0, 2)), ((((0, 0), 0), ((0, 1), 0)), (((0, 0), 1), ((1, 0), 0)))))
        self.assertEqual((parts, offset), (((0, (1, 0)), (1, (0, 0))), (0, 1)))

    def test_answers_are_tuples_all_the_way_down(self):
        def check(told):
            if type(told) is not int:
                self.assertIs(type(told), tuple)
                for part in told:
                    check(part)
        for kit in KITS:
            check(reached(kit, 0))
            check(powered(kit, 2))
            check(joined(kit, ((0, (1, 1)),)))
            check(met(kit, 0, 0, (0, 0)))
            self.assertIs(type(reach(kit)), int)

    def test_each_is_defined_in_kits(self):
        for name in ("is_kit", "reach", "reached", "powered", "joined", "met"):
            self.assertEqual(getattr(kits, name).__module__, "selfkits.kits")

    def test_power_of_the_table(self):
        self.assertEqual(powered(DRAGON, 3)[0], product(TURN, product(TURN, TURN)))


if __name__ == "__main__":
    unittest.main()
