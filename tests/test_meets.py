"""meets.py: points [6], [7] and [11], whether pictures have a common point, and the errors of the section."""

import unittest
from copy import deepcopy

from samples import (
    ADDRESS, BLOCK, CHAIN, DRAGON, DUST, FOUR, NO_KITS, NO_OFFSETS, NO_STATES, SIDE, SKEWED, STILL, TURN, TWO, Base,
    both_reaches, fits, is_told_address, otherwise, small_kits, told_graph, told_nexts, told_point, without_end,
)
from selfkits import meets as module
from selfkits.errors import InvalidKit, InvalidOffset, InvalidPair, InvalidPaper, InvalidState
from selfkits.kits import joined, met, powered
from selfkits.meets import do_meet, is_meeting, meets, triples

NAMES = ("one", "k", "other", "l", "offset")
FORM = {"meet": ("meet", ADDRESS, ADDRESS), "apart": ("apart", [((int, int, (int, int)), int)])}
FLIP, CROSS = ((0, 2), (1, 0)), ((2, 0), (0, -2))
FLIPPED = (FLIP, ((((0, 0), 0), ((1, 0), 1)), (((0, 1), 0),)))
CROSSED = (CROSS, ((((0, 0), 0), ((0, 1), 0), ((1, 1), 0)),))
# The block's lower side, and one point far off.
ROW = (TWO, ((((0, 0), 0), ((1, 0), 0)),))
FAR = (TWO, ((((4, 4), 0),),))
PAIRS = [
    (BLOCK, 0, BLOCK, 0), (SIDE, 0, BLOCK, 0), (SIDE, 0, ROW, 0), (DUST, 0, DUST, 0), (FOUR, 3, FOUR, 2),
    (FOUR, 1, ROW, 0),
    (STILL, 0, DRAGON, 0), (FAR, 0, SIDE, 0), (FLIPPED, 0, FLIPPED, 1), (CROSSED, 0, CROSSED, 0),
    ((FLIP, ((((-1, 1), 0), ((0, 0), 0)),)), 0, FLIPPED, 0), ((CROSS, ((((-2, 3), 0),),)), 0, CROSSED, 0),
]


def cases(beyond=1):
    """Pairs with offsets near, at and beyond both reaches together."""
    for one, k, other, l in PAIRS:
        far = both_reaches(one, other)
        offsets = [(x, y) for x in (-2, -1, 0, 1, 2) for y in (-1, 0, 1)]
        offsets += [(far, 0), (far, -far), (-far, far), (far + beyond, 0), (0, -far - beyond), (-9, 9)]
        for offset in offsets:
            yield one, k, other, l, offset


def right_meeting(one, k, other, l, offset):
    """A judge, by [5] and [7] in their own words, of what has the right form."""
    bound = both_reaches(one, other)

    def right(told):
        if told[0] == "meet":
            if not is_told_address(one, k, told[1]) or not is_told_address(other, l, told[2]):
                return False
            x, y = told_point(other, l, told[2])
            return told_point(one, k, told[1]) == (x + offset[0], y + offset[1])
        numbers = dict(told[1])
        if list(told[1]) != sorted(told[1]) or len(numbers) != len(told[1]):
            return False
        if max(map(abs, offset)) <= bound and (k, l, offset) not in numbers:
            return False
        for (i, j, u), number in told[1]:
            if not 0 <= i < len(one[1]) or not 0 <= j < len(other[1]) or max(map(abs, u)) > bound or number < 0:
                return False
            if not all(numbers.get(later, number) < number for later, _ in told_nexts(one, other, (i, j, u))):
                return False
        return True

    return right


class MeetsTest(Base):
    def check(self, one, k, other, l, offset):
        given = (one, k, other, l, offset)
        lasts = without_end(told_graph(one, other, (k, l, offset)))
        told = self.both_ways(meets, NAMES, given)
        self.all_tuples(told)
        self.assertEqual(told[0], "meet" if (k, l, offset) in lasts else "apart")
        self.assertTrue(fits(FORM, told))
        self.assertIs(right_meeting(*given)(told), True)
        self.assertIs(self.both_ways(is_meeting, NAMES + ("told",), given + (told,)), True)
        self.assertIs(self.both_ways(do_meet, NAMES, given), told[0] == "meet")
        self.assertEqual(self.both_ways(triples, NAMES, given), sorted(lasts))
        return told[0]

    def test_as_the_document_words_it(self):
        counts = {"meet": 0, "apart": 0}
        for case in cases():
            counts[self.check(*case)] += 1
        self.assertGreater(min(counts.values()), 50)

    def test_kits_of_many_tables(self):
        counts = {"meet": 0, "apart": 0}
        kits = [kit for kit in small_kits() if both_reaches(kit, kit) <= 24]
        for at, kit in enumerate(kits[::3]):
            other = (kit[0], ((((1, 0), 0), ((2, -1), 1)), (((0, 0), 0),)))
            for offset in [(0, 0), (1, 0), (at % 7 - 3, at % 5 - 2)]:
                counts[self.check(kit, 0, other, 1, offset)] += 1
                counts[self.check(other, 0, kit, len(kit[1]) - 1, offset)] += 1
        self.assertGreater(min(counts.values()), 40)

    def test_by_hand(self):
        for given, told in [
            ((BLOCK, 0, BLOCK, 0, (1, 1)), True), ((BLOCK, 0, BLOCK, 0, (1, -1)), True),
            ((BLOCK, 0, BLOCK, 0, (2, 0)), False), ((BLOCK, 0, BLOCK, 0, (0, -2)), False),
            ((SIDE, 0, BLOCK, 0, (-1, 0)), True), ((SIDE, 0, BLOCK, 0, (1, 0)), False),
            ((SIDE, 0, BLOCK, 0, (0, 1)), True),
            ((BLOCK, 0, SIDE, 0, (1, 0)), True), ((BLOCK, 0, SIDE, 0, (-1, 0)), False),
            ((SIDE, 0, SIDE, 0, (0, 1)), True), ((SIDE, 0, SIDE, 0, (1, 0)), False), ((SIDE, 0, ROW, 0, (0, 1)), True),
            ((SIDE, 0, ROW, 0, (-1, 1)), True), ((SIDE, 0, ROW, 0, (-1, 2)), False),
            ((DUST, 0, DUST, 0, (1, 0)), True), ((DUST, 0, DUST, 0, (0, 1)), False),
            ((FAR, 0, BLOCK, 0, (3, 3)), True), ((FAR, 0, BLOCK, 0, (4, 4)), True), ((FAR, 0, BLOCK, 0, (5, 4)), False),
            ((FOUR, 3, FOUR, 2, (2, 1)), True), ((FOUR, 3, FOUR, 2, (3, 0)), False),
            ((STILL, 0, STILL, 0, (0, 0)), True),
        ]:
            self.assertIs(do_meet(*given), told, given)
            self.assertEqual(meets(*given)[0] == "meet", told, given)

    def test_offsets_of_any_size(self):
        for offset in [(10 ** 40, 0), (0, -10 ** 40), (-10 ** 40, 10 ** 40)]:
            given = (BLOCK, 0, SIDE, 0, offset)
            self.assertEqual(meets(*given), ("apart", ()))
            self.assertIs(is_meeting(*given, ("apart", ())), True)
            self.assertIs(do_meet(*given), False)
            self.assertEqual(triples(*given), [])

    def test_turned_about(self):
        for one, k, other, l, (x, y) in cases():
            self.assertIs(do_meet(one, k, other, l, (x, y)), do_meet(other, l, one, k, (-x, -y)))

    def test_triples_by_hand(self):
        self.assertEqual(triples(BLOCK, 0, BLOCK, 0, (1, 1)), [(0, 0, (1, 1))])
        self.assertEqual(triples(BLOCK, 0, BLOCK, 0, (1, 0)), [(0, 0, (1, -1)), (0, 0, (1, 0)), (0, 0, (1, 1))])
        self.assertEqual(triples(SIDE, 0, BLOCK, 0, (0, 1)), [(0, 0, (0, 1))])
        self.assertEqual(triples(SIDE, 0, SIDE, 0, (1, 0)), [])
        self.assertEqual(triples(FOUR, 3, FOUR, 2, (2, 1)), [(3, 2, (2, 1))])

    def test_triples_are_new_each_time(self):
        told = triples(BLOCK, 0, BLOCK, 0, (1, 0))
        told[0] = None
        told.append(3)
        again = triples(BLOCK, 0, BLOCK, 0, (1, 0))
        self.assertEqual(again, [(0, 0, (1, -1)), (0, 0, (1, 0)), (0, 0, (1, 1))])
        self.assertIs(type(again), list)
        self.all_tuples(tuple(again))

    def test_kits_of_kits(self):
        corner, twice = met(BLOCK, 0, 0, (1, 0)), joined(BLOCK, ((0, (0, 0)), (0, (2, 0))))
        for given in [
            (powered(BLOCK, 3), 0, powered(SIDE, 3), 0, (1, 0)), (powered(SIDE, 2), 0, powered(BLOCK, 2), 0, (2, 0)),
            (corner, 0, corner, 1, (0, 0)), (corner, 2, BLOCK, 0, (0, 1)), (corner, 1, BLOCK, 0, (0, -2)),
            (twice, 1, BLOCK, 0, (3, 0)), (twice, 1, SIDE, 0, (4, 0)),
            (joined(SKEWED, ((1, (1, 0)),)), 2, SKEWED, 0, (1, 1)),
        ]:
            self.check(*given)
        self.assertIs(do_meet(powered(DRAGON, 3), 0, powered(DRAGON, 3), 0, (1, 1)),
                      do_meet(DRAGON, 0, DRAGON, 0, (1, 1)))

    def test_many_states(self):
        shared = met(BLOCK, 0, 0, (0, 0))
        again = met(shared, 0, 0, (0, 0))
        self.assertGreater(len(again[1]), 200)
        told = meets(again, 0, BLOCK, 0, (1, 1))
        self.assertIs(is_meeting(again, 0, BLOCK, 0, (1, 1), told), True)
        self.assertEqual(told[0], "meet")


class IsMeetingTest(Base):
    def judge(self, *given):
        told = meets(*given)
        return self.judged(lambda other: is_meeting(*given, other), right_meeting(*given), FORM, told)

    def test_addresses_put_otherwise(self):
        for given in [
            (BLOCK, 0, BLOCK, 0, (1, 0)), (BLOCK, 0, BLOCK, 0, (1, 1)), (SIDE, 0, BLOCK, 0, (0, 0)),
            (STILL, 0, STILL, 0, (0, 0)),
            (FOUR, 3, FOUR, 2, (1, 0)), (FLIPPED, 0, FLIPPED, 1, (0, 0)), (DRAGON, 0, DRAGON, 0, (0, 1)),
        ]:
            self.assertEqual(meets(*given)[0], "meet")
            counts = self.judge(*given)
            self.assertGreater(counts[False], 3)
            self.assertGreater(counts[None], 20)

    def test_papers_put_otherwise(self):
        for given in [
            (BLOCK, 0, BLOCK, 0, (2, 0)), (SIDE, 0, SIDE, 0, (1, 0)), (SIDE, 0, BLOCK, 0, (1, 1)),
            (DUST, 0, DUST, 0, (0, 1)),
            (FLIPPED, 0, FLIPPED, 1, (-2, -1)), (CROSSED, 0, CROSSED, 0, (1, -1)), (BLOCK, 0, BLOCK, 0, (9, 9)),
            (FAR, 0, SIDE, 0, (1, -1)),
        ]:
            self.assertEqual(meets(*given)[0], "apart")
            self.judge(*given)

    def test_right_ones_that_are_not_the_told(self):
        given = (BLOCK, 0, BLOCK, 0, (1, 0))
        for told, right in [
            (("meet", ((), (2,)), ((), (0,))), True), (("meet", ((2, 2), (2, 2)), ((0,), (0,))), True),
            (("meet", ((3,), (2,)), ((0, 1), (0,))), False), (("meet", ((3,), (2,)), ((1,), (0,))), True),
            (("meet", ((3,), (2,)), ((0,), (1,))), True), (("meet", ((), (0,)), ((), (2,))), False),
            (("meet", ((), ()), ((), (0,))), False), (("meet", ((), (2,)), ((0,), ())), False),
            (("meet", ((), (4,)), ((), (0,))), False), (("meet", ((), (2,)), ((-1,), (0,))), False),
            (("apart", ()), False), (("apart", (((0, 0, (1, 0)), 0),)), False),
        ]:
            self.assertIs(is_meeting(*given, told), right, told)

    def test_papers_by_hand(self):
        # The next ones of (0, 0, (1, 0)) are (0, 0, (2, y)), y from -1 to 1, and those of these lie beyond.
        given = (SIDE, 0, SIDE, 0, (1, 0))
        rows = tuple(((0, 0, (2, y)), 0) for y in (-1, 0, 1))
        self.assertEqual(meets(*given), ("apart", (((0, 0, (1, 0)), 1),) + rows))
        more = tuple(((0, 0, (2, y)), 5) for y in (-2, -1, 0, 1, 2))
        for paper, right in [
            ((((0, 0, (1, 0)), 1),) + rows, True), ((((0, 0, (1, 0)), 7),) + rows, True),
            ((((0, 0, (1, 0)), 0),) + rows, False), (rows, False), ((((0, 0, (1, 0)), 1),) + rows[:2], False),
            ((((0, 0, (1, 0)), 6),) + more, True), ((((0, 0, (1, 0)), 5),) + more, False),
            ((((0, 0, (1, 0)), 1),) + rows[::-1], False), (rows + (((0, 0, (1, 0)), 1),), False),
            ((((0, 0, (1, 0)), 1), ((0, 0, (1, 0)), 2)) + rows, False),
            ((((0, 0, (1, 0)), 1),) + rows + rows[2:], False),
            ((((0, 0, (1, 0)), 1),) + rows + (((0, 0, (3, 0)), 0),), False),
            ((((0, 0, (1, 0)), 1),) + rows + (((0, 1, (0, 0)), 0),), False),
            ((((-1, 0, (0, 0)), 0), ((0, 0, (1, 0)), 1)) + rows, False),
            ((((0, 0, (1, 0)), 1), ((0, 0, (2, -1)), -1)) + rows[1:], False),
            # A triple of which a row does not end can not stand in any paper.
            ((((0, 0, (0, 0)), 9), ((0, 0, (1, 0)), 1)) + rows, False), ((), False),
        ]:
            self.assertIs(is_meeting(*given, ("apart", paper)), right, paper)

    def test_beyond_both_reaches(self):
        given = (BLOCK, 0, SIDE, 0, (3, 0))
        for paper, right in [
            ((), True), ((((0, 0, (2, 0)), 0),), True), ((((0, 0, (1, 0)), 0),), False),
            ((((0, 0, (3, 0)), 0),), False),
            ((((0, 0, (-2, 2)), 0),), True), ((((0, 0, (-2, 2)), 4),), True), ((((0, 0, (-2, 2)), -1),), False),
        ]:
            self.assertIs(is_meeting(*given, ("apart", paper)), right, paper)
            self.assertIs(right_meeting(*given)(("apart", paper)), right)
        self.assertIs(is_meeting(*given, ("meet", ((), (2,)), ((), (0,)))), False)

    def test_the_paper_of_another_pair(self):
        papers = [(given, meets(*given)) for given in cases() if not do_meet(*given)]
        for at, (given, _) in enumerate(papers):
            for _, told in papers[at % 5::29]:
                self.assertIs(is_meeting(*given, told), right_meeting(*given)(told))

    def test_of_another_form(self):
        good = ("meet", ((), (2,)), ((), (0,)))
        for bad in [
            None, 0, "meet", (), ("meet",), ("apart",), ("apart", None), ("apart", 0), ("apart", [], 0), ("apart", []),
            ("meet", ()), ("meet", ((), (2,))), good + ((),), good + (0,), list(good), ("Meet",) + good[1:],
            ("apart",) + good[1:],
            ("meet", ((), (2,)), ((),)), ("meet", ((), (2,)), ((), (0,), ())), ("meet", ((), [2]), ((), (0,))),
            ("meet", ((), (True,)), ((), (0,))), ("meet", ((None,), (2,)), ((), (0,))), ("meet", (), ()),
            ("meet", ((), ((),)), ((), (0,))), ("apart", (0,)), ("apart", ((),)), ("apart", (((0, 0, (9, 9)),),)),
            ("apart", (((0, 0, (1, 0)), 0, 0),)), ("apart", (((0, 0), 0),)), ("apart", (((0, 0, 1, 0), 0),)),
            ("apart", (((0, 0, (1,)), 0),)), ("apart", (((0, 0, (1, 0, 0)), 0),)),
            ("apart", (((0, False, (1, 0)), 0),)),
            ("apart", (((0, 0, (True, 0)), 0),)), ("apart", (((0, 0, (1, 0)), False),)),
            ("apart", ([(0, 0, (1, 0)), 0],)),
            ("apart", (((0, 0, [1, 0]), 0),)), ("apart", (((0, 0, (1, 0)), (0,)),)), (None, ()), (0, ()), ((), ()),
        ]:
            self.raises_both_ways(InvalidPaper, bad, is_meeting, NAMES + ("told",), (BLOCK, 0, BLOCK, 0, (1, 0), bad))


class ErrorsTest(Base):
    def each(self):
        """Each function with its names, and what stands behind the offset."""
        for call in (meets, do_meet, triples):
            yield call, NAMES, ()
        yield is_meeting, NAMES + ("told",), (0,)

    def test_no_kit(self):
        for call, names, more in self.each():
            for bad in NO_KITS:
                self.raises_both_ways(InvalidKit, bad, call, names, (bad, 0, BLOCK, 0, (0, 0)) + more)
                self.raises_both_ways(InvalidKit, bad, call, names, (BLOCK, 0, bad, 0, (0, 0)) + more)
            self.raises_both_ways(InvalidKit, NO_KITS[1], call, names, (NO_KITS[1], -1, NO_KITS[2], 9, None) + more)
            self.raises_both_ways(InvalidKit, NO_KITS[2], call, names, (BLOCK, -1, NO_KITS[2], 9, None) + more)

    def test_unlike_tables(self):
        for call, names, more in self.each():
            for one, other in [(BLOCK, DUST), (DRAGON, BLOCK), ((((-2, 0), (0, -2)), BLOCK[1]), BLOCK)]:
                self.raises_both_ways(InvalidPair, (one, other), call, names, (one, 0, other, 0, (0, 0)) + more)
                self.raises_both_ways(InvalidPair, (one, other), call, names, (one, 7, other, True, 0) + more)

    def test_no_state(self):
        for call, names, more in self.each():
            for bad in NO_STATES:
                self.raises_both_ways(InvalidState, bad, call, names, (BLOCK, bad, FOUR, 3, (0, 0)) + more)
                self.raises_both_ways(InvalidState, bad, call, names, (FOUR, 3, BLOCK, bad, (0, 0)) + more)
            self.raises_both_ways(InvalidState, 6, call, names, (BLOCK, 6, BLOCK, 7, (0,)) + more)
            self.raises_both_ways(InvalidState, 7, call, names, (BLOCK, 0, BLOCK, 7, (0,)) + more)
            self.raises_both_ways(InvalidState, 1, call, names, (FOUR, 1, BLOCK, 1, (0, 0)) + more)

    def test_no_offset(self):
        for call, names, more in self.each():
            for bad in NO_OFFSETS:
                self.raises_both_ways(InvalidOffset, bad, call, names, (BLOCK, 0, SIDE, 0, bad) + more)

    def test_arguments_are_as_they_were(self):
        kit, other = (TURN, ((((0, 0), 0), ((1, 0), 0)),)), (TURN, ((((0, 0), 1),), (((0, 1), 0),)))
        for offset in ((0, 1), (9, 9), (2, -2)):
            told = meets(kit, 0, other, 1, offset)
            copy = deepcopy(told)
            is_meeting(kit, 0, other, 1, offset, told), do_meet(kit, 0, other, 1, offset)
            triples(kit, 0, other, 1, offset)
            self.assertEqual(told, copy)
        self.assertEqual((kit, other), (
            (((1, -1), (1, 1)), ((((0, 0), 0), ((1, 0), 0)),)), (((1, -1), (1, 1)), ((((0, 0), 1),), (((0, 1), 0),))),
        ))

    def test_each_is_defined_in_meets(self):
        for name in ("meets", "is_meeting", "do_meet", "triples"):
            self.assertEqual(getattr(module, name).__module__, "selfkits.meets")

    def test_the_forms_tried_are_of_both_kinds(self):
        told = meets(CHAIN, 0, CHAIN, 1, (9, 9))
        kinds = {fits(FORM, other) for other in otherwise(told)}
        self.assertEqual(kinds, {True, False})


if __name__ == "__main__":
    unittest.main()
