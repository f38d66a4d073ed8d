"""insides.py: points [7] and [11], pictures within others and of one kind, and the errors of the section."""

import unittest
from functools import lru_cache
from itertools import product as all_of

from samples import (
    BLOCK, DRAGON, DUST, FOUR, NO_KITS, NO_OFFSETS, NO_STATES, SIDE, STILL, TURN, TWO, Base, both_reaches, fits,
    grid, has_point, leads, told_nexts,
)
from selfkits import insides
from selfkits.errors import InvalidKit, InvalidOffset, InvalidPair, InvalidPaper, InvalidState
from selfkits.insides import classes, inside, is_inside, is_one_picture, same
from selfkits.kits import joined, met, powered, reached

NAMES = ("one", "k", "other", "l", "offset")
LOT = [(int, (int, int))]
FORM = {"inside": ("inside", [(int, LOT)]), "outside": ("outside", [int])}
OTHER = (TWO, (
    (((0, 0), 1), ((0, 1), 1), ((1, 0), 1), ((1, 1), 1)), (((0, 0), 0), ((0, 1), 0), ((1, 0), 0), ((1, 1), 0)),
))
# The states of FOUR in another sequence: 2, 0, 3, 1.
MIXED = (TWO, ((((0, 0), 0),), tuple((step, 1) for step, _ in FOUR[1][0]),
               tuple((step, 2) for step, _ in FOUR[1][3]), tuple((step, 3) for step, _ in FOUR[1][1])))
SEQUENCE = (1, 3, 0, 2)
# Each state of FOUR twice, the copies of both led to both in turn.
TWICE = (TWO, tuple(tuple(sorted((step, led + 4 * ((at + odd) % 2)) for at, (step, led) in enumerate(copies)))
                    for odd in (0, 1) for copies in FOUR[1]))
GASKET = (TWO, ((((0, 0), 0), ((0, 1), 0), ((1, 0), 0)),))
FLIPPED = (((0, 2), (1, 0)), ((((0, 0), 0), ((1, 0), 1)), (((0, 1), 0),)))
CROSSED = (((2, 0), (0, -2)), ((((0, 1), 0), ((1, 0), 0)),))
# The gasket with the block in the place of its least copy.
LESS = (TWO, ((((0, 0), 1), ((0, 1), 0), ((1, 0), 0)), (((0, 0), 1), ((0, 1), 1), ((1, 0), 1), ((1, 1), 1))))
PAIRS = [
    (SIDE, 0, BLOCK, 0), (BLOCK, 0, SIDE, 0), (BLOCK, 0, OTHER, 1), (FOUR, 0, FOUR, 3), (FOUR, 3, FOUR, 0),
    (FOUR, 2, FOUR, 1),
    (GASKET, 0, BLOCK, 0), (BLOCK, 0, GASKET, 0), (LESS, 0, GASKET, 0), (GASKET, 0, LESS, 0), (DUST, 0, DUST, 0),
    (STILL, 0, STILL, 0), (STILL, 0, DRAGON, 0), (FLIPPED, 0, FLIPPED, 0), (FLIPPED, 1, FLIPPED, 0),
    (CROSSED, 0, CROSSED, 0),
]


def cases():
    for one, k, other, l in PAIRS:
        far = both_reaches(one, other)
        for offset in [(0, 0), (1, 0), (-1, 0), (0, 1), (-1, -1), (far, 0), (far + 1, 0), (0, -far - 1)]:
            yield one, k, other, l, offset


@lru_cache(maxsize=None)
def along(one, k, other, lot, place):
    """[7] in its own words: what a lot of the state k becomes along its copy at a place."""
    return tuple(sorted({
        (j, u) for l, offset in lot for (_, j, u), (at, _) in told_nexts(one, other, (k, l, offset)) if at == place
    }))


def first_lot(one, other, l, offset):
    return ((l, offset),) if max(map(abs, offset)) <= both_reaches(one, other) else ()


def lot_behind(one, k, other, lot, walk):
    for place, state in zip(walk, leads(one, k, walk)):
        lot = along(one, state, other, lot, place)
    return lot


@lru_cache(maxsize=None)
def told_rows(one, k, other, l, offset):
    """All (state, lot) to which copies lead, and whether one of the lots is empty."""
    rows, waiting = set(), [(k, first_lot(one, other, l, offset))]
    while waiting:
        here = waiting.pop()
        if here not in rows:
            rows.add(here)
            if here[1]:
                copies = one[1][here[0]]
                waiting.extend((copies[at][1], along(one, here[0], other, here[1], at)) for at in range(len(copies)))
    return rows, any(not lot for _, lot in rows)


def is_one(one, k, other, l, offset):
    x, y = offset
    return not told_rows(one, k, other, l, offset)[1] and not told_rows(other, l, one, k, (-x, -y))[1]


def right_inside(one, k, other, l, offset):
    """A judge, by the section in its own words, of what has the right form."""
    bound, lot = both_reaches(one, other), first_lot(one, other, l, offset)

    def is_row(state, told):
        right = 0 <= state < len(one[1]) and len(told) > 0 and list(told) == sorted(set(told))
        return right and all(0 <= j < len(other[1]) and max(map(abs, u)) <= bound for j, u in told)

    def right(told):
        if told[0] == "outside":
            return leads(one, k, told[1]) is not None and not lot_behind(one, k, other, lot, told[1])
        if (k, lot) not in told[1] or not all(is_row(*row) for row in told[1]):
            return False
        return all(
            (led, along(one, state, other, here, at)) in told[1]
            for state, here in told[1] for at, (_, led) in enumerate(one[1][state])
        )

    return right


class InsideTest(Base):
    def check(self, given):
        one, k, other, l, offset = given
        told = self.both_ways(inside, NAMES, given)
        self.all_tuples(told)
        self.assertTrue(fits(FORM, told))
        self.assertIs(right_inside(*given)(told), True)
        self.assertIs(self.both_ways(is_inside, NAMES + ("told",), given + (told,)), True)
        rows, emptied = told_rows(*given)
        if told[0] == "inside":
            self.assertEqual((list(told[1]), emptied), (sorted(rows), False))
        else:
            self.assertIs(emptied, True)
            self.first(given, told[1])
        return told[0]

    def first(self, given, walk):
        """No shorter walk, and none of the same length ahead of it, comes to an empty lot."""
        one, k, other, l, offset = given
        lot = first_lot(one, other, l, offset)
        for n in range(len(walk) + 1):
            for told in all_of(range(max(map(len, one[1]))), repeat=n):
                if leads(one, k, told) is not None and not lot_behind(one, k, other, lot, told):
                    self.assertEqual(told, walk)
                    return

    def test_as_the_document_words_it(self):
        counts = {"inside": 0, "outside": 0}
        for case in cases():
            counts[self.check(case)] += 1
        self.assertGreater(min(counts.values()), 12)

    def test_by_hand(self):
        for given, told in [
            ((SIDE, 0, BLOCK, 0, (0, 0)), "inside"), ((SIDE, 0, BLOCK, 0, (-1, 0)), "inside"),
            ((SIDE, 0, BLOCK, 0, (0, 1)), "outside"), ((SIDE, 0, BLOCK, 0, (1, 0)), "outside"),
            ((FOUR, 0, FOUR, 3, (0, 0)), "inside"), ((FOUR, 0, FOUR, 3, (-1, 0)), "inside"),
            ((FOUR, 0, FOUR, 3, (1, 0)), "outside"), ((FOUR, 2, FOUR, 1, (0, -1)), "inside"),
            ((FOUR, 2, FOUR, 1, (0, 1)), "outside"), ((GASKET, 0, BLOCK, 0, (0, 0)), "inside"),
            ((GASKET, 0, LESS, 0, (0, 0)), "inside"), ((LESS, 0, GASKET, 0, (0, 0)), "outside"),
            ((LESS, 0, BLOCK, 0, (0, 0)), "inside"), ((STILL, 0, DRAGON, 0, (0, 0)), "inside"),
        ]:
            self.assertEqual(inside(*given)[0], told, given)

    def test_first_walks_by_hand(self):
        for given, walk in [
            ((BLOCK, 0, SIDE, 0, (0, 0)), (2, 2)), ((BLOCK, 0, SIDE, 0, (1, 0)), (0, 0)),
            ((BLOCK, 0, SIDE, 0, (3, 0)), ()),
            ((BLOCK, 0, SIDE, 0, (2, 0)), (0,)), ((BLOCK, 0, FOUR, 2, (1, 1)), (0, 0)),
            ((SIDE, 0, BLOCK, 0, (0, 99)), ()),
        ]:
            self.assertEqual(inside(*given), ("outside", walk), given)

    def test_tables_by_hand(self):
        # Each copy of the point (0, 0) leads to what is near it in the block moved by (-1, 0).
        point = (TWO, ((((0, 0), 0),),))
        self.assertEqual(inside(point, 0, point, 0, (0, 0)), ("inside", ((0, ((0, (0, 0)),)),)))
        told = inside(point, 0, BLOCK, 0, (0, 0))
        lots = [((0, (0, 0)),), tuple((0, u) for u in ((0, 0), (0, 1), (1, 0), (1, 1)))]
        self.assertEqual(told, ("inside", tuple((0, lot) for lot in lots)))

    def test_a_lot_holds_all_triples_also_such_as_end(self):
        # (1, 1) is within both reaches, although from it all rows end: so it stands in the lot.
        point = (TWO, ((((0, 0), 0),),))
        two = (TWO, ((((0, 0), 0), ((1, 1), 0)),))
        self.assertEqual(inside(point, 0, two, 0, (0, 0)),
                         ("inside", ((0, ((0, (0, 0)),)), (0, ((0, (0, 0)), (0, (1, 1)))))))

    def test_points_of_what_lies_inside(self):
        for given in [(GASKET, 0, LESS, 0, (0, 0)), (SIDE, 0, BLOCK, 0, (-1, 0)), (FOUR, 0, FOUR, 3, (-1, 0))]:
            one, k, other, l, offset = given
            self.assertEqual(inside(one, k, other, l, offset)[0], "inside")
            for x, y in grid(-1, 2, 4) + grid(0, 1, 3):
                if has_point(one, k, (x, y)):
                    self.assertTrue(has_point(other, l, (x - offset[0], y - offset[1])))

    def test_offsets_of_any_size(self):
        for offset in [(10 ** 40, 0), (0, -10 ** 40)]:
            given = (BLOCK, 0, BLOCK, 0, offset)
            self.assertEqual(inside(*given), ("outside", ()))
            self.assertIs(is_inside(*given, ("outside", ())), True)
            self.assertIs(is_inside(*given, ("outside", (1, 2))), True)
            self.assertIs(is_inside(*given, ("outside", (1, 4))), False)
            self.assertIs(is_inside(*given, ("inside", ())), False)
            self.assertIs(is_inside(*given, ("inside", ((0, ()),))), False)
            self.assertIs(is_inside(*given, ("inside", ((0, ((0, offset),)),))), False)
            self.assertEqual(same(*given), ("one", ()))


class IsInsideTest(Base):
    def judge(self, *given):
        return self.judged(lambda other: is_inside(*given, other), right_inside(*given), FORM, inside(*given))

    def test_tables_put_otherwise(self):
        for given in [
            (SIDE, 0, SIDE, 0, (0, 0)), (FOUR, 2, FOUR, 2, (0, 0)), (FOUR, 2, FOUR, 0, (0, -1)),
            (STILL, 0, STILL, 0, (0, 0)),
            (DUST, 0, DUST, 0, (0, 0)), (FOUR, 2, FOUR, 1, (0, 0)), (CROSSED, 0, CROSSED, 0, (0, 0)),
        ]:
            self.assertEqual(inside(*given)[0], "inside")
            counts = self.judge(*given)
            self.assertGreater(counts[True], 0)
            self.assertGreater(counts[False], 3)

    def test_walks_put_otherwise(self):
        for given in [
            (BLOCK, 0, SIDE, 0, (0, 0)), (BLOCK, 0, SIDE, 0, (2, 0)), (FOUR, 3, FOUR, 0, (0, 0)),
            (LESS, 0, GASKET, 0, (0, 0)),
            (FLIPPED, 0, FLIPPED, 1, (0, 1)), (BLOCK, 0, BLOCK, 0, (3, 3)),
        ]:
            self.assertEqual(inside(*given)[0], "outside")
            self.judge(*given)

    def test_rows_left_out_put_in_and_in_another_sequence(self):
        for given in [(SIDE, 0, BLOCK, 0, (0, 0)), (FOUR, 0, FOUR, 3, (-1, 0)), (GASKET, 0, LESS, 0, (0, 0))]:
            rows = inside(*given)[1]
            one, k, other, l, offset = given
            for told in (rows[::-1], rows[1:] + rows[:1], rows + rows, rows[:1] + rows):
                self.assertIs(is_inside(*given, ("inside", told)), True)
            for at in range(len(rows)):
                self.assertIs(is_inside(*given, ("inside", rows[:at] + rows[at + 1:])), False)
            more = inside(one, k, other, l, (0, 0))[1] + rows
            self.assertIs(is_inside(*given, ("inside", more)), True)
            for row in [(k, ()), (len(one[1]), ((l, offset),)), (-1, ((l, offset),)), (k, ((len(other[1]), offset),)),
                        (k, ((-1, offset),)), (k, ((l, (both_reaches(one, other) + 1, 0)),)),
                        # one from which copies lead to an empty lot
                        (k, ((l, (-both_reaches(one, other), 0)),))]:
                self.assertIs(is_inside(*given, ("inside", rows + (row,))), False, row)
                self.assertIs(is_inside(*given, ("inside", (row,) + rows)), False, row)

    def test_a_lot_turned_about(self):
        given = (SIDE, 0, BLOCK, 0, (0, 0))
        rows = inside(*given)[1]
        for at, (state, lot) in enumerate(rows):
            told = rows[:at] + ((state, lot[::-1]),) + rows[at + 1:]
            self.assertIs(is_inside(*given, ("inside", told)), len(lot) == 1)
            self.assertIs(is_inside(*given, ("inside", rows + ((state, lot[::-1]),))), len(lot) == 1)
            self.assertIs(is_inside(*given, ("inside", rows + ((state, lot[:1] + lot),))), False)

    def test_longer_walks(self):
        given = (BLOCK, 0, SIDE, 0, (0, 0))
        for walk, right in [
            ((2, 2), True), ((2,), False), ((), False), ((2, 3), True), ((2, 2, 0), True), ((2, 2, 0, 1, 2, 3), True),
            ((3, 2), True), ((0, 2, 2), True), ((0, 1), False), ((0, 0, 0, 1, 1, 1), False), ((2, 2, 4), False),
            ((2, 2, -1), False), ((2, 0, 2), True), ((2, 0), False), ((1, 1, 2, 2), True), ((4,), False),
        ]:
            self.assertIs(is_inside(*given, ("outside", walk)), right, walk)
            self.assertIs(right_inside(*given)(("outside", walk)), right, walk)

    def test_the_wrong_word(self):
        self.assertIs(is_inside(SIDE, 0, BLOCK, 0, (0, 0), ("outside", ())), False)
        self.assertIs(is_inside(SIDE, 0, BLOCK, 0, (0, 0), ("inside", ())), False)
        self.assertIs(is_inside(BLOCK, 0, SIDE, 0, (0, 0), ("inside", ())), False)
        self.assertIs(is_inside(BLOCK, 0, SIDE, 0, (0, 0), inside(BLOCK, 0, BLOCK, 0, (0, 0))), False)

    def test_of_another_form(self):
        for bad in [
            None, 0, "inside", (), ("inside",), ("outside",), ("inside", None), ("outside", None), ("outside", 0),
            ("inside", 0),
            ("outside", [2, 2]), ("inside", [(0, ())]), ("outside", (True,)), ("outside", ((2,),)),
            ("outside", (2, None)),
            ("inside", (0,)), ("inside", ((0,),)), ("inside", ((0, (), 0),)), ("inside", ((True, ()),)),
            ("inside", ((0, 0),)), ("inside", ((0, [(0, (0, 0))]),)), ("inside", ((0, (0,)),)),
            ("inside", ((0, ((0,),)),)),
            ("inside", ((0, ((0, (0,)),)),)), ("inside", ((0, ((0, (0, 0, 0)),)),)),
            ("inside", ((0, ((False, (0, 0)),)),)),
            ("inside", ((0, ((0, (0, False)),)),)), ("inside", (), ()), ("outside", (), ()), ["outside", (2, 2)],
            ("Inside", ()), ("same", (), ()), (None, ()), ("", ()), ((), ()),
        ]:
            self.raises_both_ways(InvalidPaper, bad, is_inside, NAMES + ("told",), (BLOCK, 0, SIDE, 0, (0, 0), bad))


class SameTest(Base):
    def check(self, given):
        one, k, other, l, (x, y) = given
        told = self.both_ways(same, NAMES, given)
        there, back = inside(*given), inside(other, l, one, k, (-x, -y))
        if there[0] == "outside":
            self.assertEqual(told, ("one", there[1]))
        elif back[0] == "outside":
            self.assertEqual(told, ("other", back[1]))
        else:
            self.assertEqual(told, ("same", there[1], back[1]))
        self.all_tuples(told)
        self.assertIs(told[0] == "same", is_one(*given))
        # What classes and the turns are told by, too.
        self.assertIs(is_one_picture(*given), told[0] == "same")
        return told[0]

    def test_as_the_document_words_it(self):
        counts = {"one": 0, "other": 0, "same": 0}
        for case in cases():
            counts[self.check(case)] += 1
        self.assertGreater(min(counts.values()), 4)

    def test_by_hand(self):
        for given, told in [
            ((BLOCK, 0, OTHER, 0, (0, 0)), "same"), ((OTHER, 0, OTHER, 1, (0, 0)), "same"),
            ((SIDE, 0, BLOCK, 0, (0, 0)), "other"),
            ((BLOCK, 0, SIDE, 0, (0, 0)), "one"), ((BLOCK, 0, BLOCK, 0, (0, 1)), "one"),
            ((LESS, 0, GASKET, 0, (0, 0)), "one"),
            ((GASKET, 0, LESS, 0, (0, 0)), "other"), ((FOUR, 0, BLOCK, 0, (0, 0)), "same"),
            ((FOUR, 1, SIDE, 0, (0, 0)), "same"),
        ]:
            self.assertEqual(same(*given)[0], told, given)

    def test_kits_moved(self):
        for kit in (BLOCK, GASKET, DUST, FLIPPED):
            for x, y in [(0, 0), (1, 0), (-3, 2)]:
                moved, last = joined(kit, ((0, (x, y)),)), len(kit[1])
                self.assertEqual(same(moved, last, kit, 0, (x, y))[0], "same")
                self.assertIs(is_one_picture(moved, last, kit, 0, (x, y)), True)
                self.assertEqual(same(kit, 0, moved, last, (-x, -y))[0], "same")
                self.assertEqual(same(moved, last, kit, 0, (x, y + 1))[0], "one")
                self.assertEqual(same(moved, last, kit, 0, (-x, -y))[0], "same" if (x, y) == (0, 0) else "one")

    def test_kits_mixed_and_with_each_state_twice(self):
        for k, l in all_of(range(4), repeat=2):
            self.assertEqual(same(FOUR, k, MIXED, SEQUENCE[l], (0, 0))[0] == "same", k == l)
            self.assertEqual(same(FOUR, k, TWICE, l, (0, 0))[0] == "same", k == l)
            self.assertEqual(same(TWICE, k + 4, TWICE, l, (0, 0))[0] == "same", k == l)

    def test_kits_of_kits(self):
        for kit in (BLOCK, GASKET, FOUR):
            self.assertEqual(same(powered(kit, 3), 0, powered(kit, 3), 0, (0, 0))[0], "same")
        block, side = powered(BLOCK, 3), powered(SIDE, 3)
        self.assertEqual([same(side, 0, block, 0, (0, 0))[0], same(block, 0, side, 0, (0, 0))[0]], ["other", "one"])
        row = joined(BLOCK, ((0, (0, 0)), (0, (1, 0))))
        self.assertEqual(same(row, 1, FOUR, 3, (0, 0))[0], "same")
        shared = met(BLOCK, 0, 0, (1, 0))
        self.assertEqual(same(shared, 0, SIDE, 0, (1, 0))[0], "same")
        self.assertEqual(same(met(BLOCK, 0, 0, (0, 0)), 0, BLOCK, 0, (0, 0))[0], "same")
        self.assertEqual(same(joined(SIDE, ((0, (0, 0)), (0, (0, 0)))), 1, SIDE, 0, (0, 0))[0], "same")

    def test_a_picture_told_by_other_pieces(self):
        needless = (TWO, ((((0, 0), 0), ((1, 0), 0), ((2, 0), 0)), (((0, 0), 1), ((2, 0), 1))))
        self.assertEqual(same(needless, 0, needless, 1, (0, 0))[0], "same")
        # The row from 0 to 2 is two rows from 0 to 1.
        row = joined((TWO, ((((0, 0), 0), ((1, 0), 0)),)), ((0, (0, 0)), (0, (1, 0))))
        self.assertEqual(same(needless, 1, row, 1, (0, 0))[0], "same")
        self.assertEqual(same(needless, 1, row, 0, (0, 0))[0], "one")
        self.assertEqual(same(row, 0, needless, 0, (-1, 0))[0], "other")


class ClassesTest(Base):
    def test_by_hand(self):
        for kit, told in [
            (BLOCK, ((0,),)), (OTHER, ((0, 1),)), (FOUR, ((0,), (1,), (2,), (3,))), (MIXED, ((0,), (1,), (2,), (3,))),
            (TWICE, ((0, 4), (1, 5), (2, 6), (3, 7))), (LESS, ((0,), (1,))), (FLIPPED, ((0,), (1,))),
            ((TWO, ((((0, 0), 0), ((1, 0), 0), ((2, 0), 0)), (((0, 0), 1), ((2, 0), 1)))), ((0, 1),)),
            # 0 and 2 are the point (0, 0), 1 and 3 the point (1, 0), told in four ways.
            ((TWO, ((((0, 0), 2),), (((1, 0), 3),), (((0, 0), 2),), (((2, 0), 0),))), ((0, 2), (1, 3))),
            ((TWO, ((((1, 0), 1),), (((1, 0), 0),), (((0, 0), 2),), (((2, 0), 2),))), ((0, 1, 3), (2,))),
        ]:
            self.assertEqual(self.both_ways(classes, ("kit",), (kit,)), told)
            self.all_tuples(classes(kit))

    def test_as_the_document_words_it(self):
        kits = [BLOCK, SIDE, DUST, FOUR, OTHER, MIXED, LESS, FLIPPED, met(BLOCK, 0, 0, (1, 0))]
        kits += [joined(kit, ((0, (0, 0)), (len(kit[1]) - 1, (0, 0)))) for kit in (BLOCK, FOUR, LESS)]
        for kit in kits:
            told = classes(kit)
            self.assertEqual(sorted(state for row in told for state in row), list(range(len(kit[1]))))
            self.assertEqual(list(told), sorted(told))
            for row in told:
                self.assertEqual(list(row), sorted(row))
            for k, l in all_of(range(len(kit[1])), repeat=2):
                self.assertIs(any(k in row and l in row for row in told), is_one(kit, k, kit, l, (0, 0)))

    def test_many_states(self):
        again = met(met(BLOCK, 0, 0, (0, 0)), 0, 0, (0, 0))
        told = classes(again)
        self.assertEqual(len(told), 9)
        self.assertEqual(sorted(state for row in told for state in row), list(reached(again, 0)))

    def test_errors(self):
        for bad in NO_KITS:
            self.raises_both_ways(InvalidKit, bad, classes, ("kit",), (bad,))


class ErrorsTest(Base):
    def each(self):
        for call in (inside, same):
            yield call, NAMES, ()
        yield is_inside, NAMES + ("told",), (0,)

    def test_no_kit(self):
        for call, names, more in self.each():
            for bad in NO_KITS:
                self.raises_both_ways(InvalidKit, bad, call, names, (bad, 0, BLOCK, 0, (0, 0)) + more)
                self.raises_both_ways(InvalidKit, bad, call, names, (BLOCK, 0, bad, 0, (0, 0)) + more)
            self.raises_both_ways(InvalidKit, NO_KITS[3], call, names, (NO_KITS[3], -1, NO_KITS[2], 9, None) + more)
            self.raises_both_ways(InvalidKit, NO_KITS[2], call, names, (BLOCK, -1, NO_KITS[2], 9, None) + more)

    def test_unlike_tables(self):
        for call, names, more in self.each():
            for one, other in [(BLOCK, DUST), (DRAGON, BLOCK)]:
                self.raises_both_ways(InvalidPair, (one, other), call, names, (one, 0, other, 0, (0, 0)) + more)
                self.raises_both_ways(InvalidPair, (one, other), call, names, (one, 7, other, True, 0) + more)

    def test_no_state_no_offset(self):
        for call, names, more in self.each():
            for bad in NO_STATES:
                self.raises_both_ways(InvalidState, bad, call, names, (BLOCK, bad, FOUR, 3, (0,)) + more)
                self.raises_both_ways(InvalidState, bad, call, names, (FOUR, 3, BLOCK, bad, (0,)) + more)
            self.raises_both_ways(InvalidState, 6, call, names, (BLOCK, 6, BLOCK, 7, (0,)) + more)
            for bad in NO_OFFSETS:
                self.raises_both_ways(InvalidOffset, bad, call, names, (BLOCK, 0, SIDE, 0, bad) + more)

    def test_arguments_are_as_they_were(self):
        kit = (TURN, ((((0, 0), 0), ((1, 0), 0)), (((0, 0), 1),)))
        told = inside(kit, 1, kit, 0, (0, 0))
        is_inside(kit, 1, kit, 0, (0, 0), told), same(kit, 1, kit, 0, (0, 0)), classes(kit)
        self.assertEqual(kit, (((1, -1), (1, 1)), ((((0, 0), 0), ((1, 0), 0)), (((0, 0), 1),))))
        self.assertEqual(inside(kit, 1, kit, 0, (0, 0)), told)

    def test_each_is_defined_in_insides(self):
        for name in ("inside", "is_inside", "same", "classes"):
            self.assertEqual(getattr(insides, name).__module__, "selfkits.insides")


if __name__ == "__main__":
    unittest.main()
