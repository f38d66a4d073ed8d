"""squares.py: points [7] and [11], which squares are shown, their lots and kinds, and the errors of the section."""

import unittest
from itertools import product as all_of

from samples import BLOCK, DUST, FOUR, NO_KITS, NO_OFFSETS, NO_STATES, SIDE, TWO, Base, has_point, taken
from selfkits import squares
from selfkits.errors import InvalidKit, InvalidOffset, InvalidState, InvalidZoom, NoSquares
from selfkits.insides import same
from selfkits.kits import is_kit, joined, powered
from selfkits.squares import kinds, lot_of, shown, shown_squares, square_kit
from selfkits.tables import axes, is_growing, power, times
from tiles import (
    BACKWARD, CARPET, CROSSED, GASKET, GOLDEN, NO_SQUARES, SMALL_KITS, STEPPED, TABLES, THICK, THREE, drawn_kits,
    few_kinds, made_kits, told_far_lots, told_lots, told_parts, told_square, told_touching, told_ways,
)

NAMES = ("kit", "state", "zoom", "square")
NO_ZOOMS = [-1, -10 ** 30, True, False, None, (1,), "1", (0, 0)]


def around(kit, state, zoom):
    """All squares that are shown, and those next to them."""
    return sorted({(x + p, y + q) for x, y in told_lots(kit, state, zoom) for p in (-1, 0, 1) for q in (-1, 0, 1)})


class SquareKitTest(Base):
    def test_by_hand(self):
        for table, steps in [
            (TWO, [(0, 0), (0, 1), (1, 0), (1, 1)]), (((-2, 0), (0, 2)), [(-2, 0), (-2, 1), (-1, 0), (-1, 1)]),
            (((2, 0), (0, -2)), [(0, -2), (0, -1), (1, -2), (1, -1)]), (((0, 1), (2, 0)), [(0, 0), (0, 1)]),
            (((0, -1), (-3, 0)), [(-1, -3), (-1, -2), (-1, -1)]), (((0, 2), (-1, 0)), [(0, -1), (1, -1)]),
        ]:
            told = (table, (tuple((step, 0) for step in steps),))
            self.assertEqual(self.both_ways(square_kit, ("table",), (table,)), told)

    def test_all_tables(self):
        self.assertEqual(len(TABLES), 48)
        for table in all_of(all_of(range(-4, 5), repeat=2), repeat=2):
            if is_growing(table) and axes(table) == 1:
                told = square_kit(table)
                self.assertTrue(is_kit(told))
                self.all_tuples(told)
                self.assertEqual(told, told_square(table))
            else:
                self.raises(NoSquares, table, square_kit, table)

    def test_the_picture_is_the_square(self):
        for table in TABLES[::5]:
            kit = square_kit(table)
            for point in [(0, 0), (1, 1), (0, 1), (1, 0)]:
                self.assertTrue(has_point(kit, 0, point))
            for point in [(2, 0), (-1, 0), (0, 2), (1, -1)]:
                self.assertFalse(has_point(kit, 0, point))
        for n in (2, 3):
            self.assertEqual(square_kit(power(TWO, n)), powered(BLOCK, n))
            self.assertEqual(same(powered(square_kit(((0, 2), (3, 0))), 2), 0, square_kit(((6, 0), (0, 6))), 0,
                (0, 0))[0],
                             "same")

    def test_no_squares(self):
        for bad in [
            ((1, -1), (1, 1)), ((2, 1), (0, 2)), ((1, 0), (0, 2)), ((0, 1), (1, 0)), ((1, 0), (0, 1)), ((2, 1), (1, 2)),
            ((0, 0), (0, 0)), ((-1, 0), (0, 3)), (), ((),), ((2, 0), (0,)), ((2, 0), (0, 2), (0, 0)), ((2, 0), [0, 2]),
            [(2, 0), (0, 2)], ((True, 0), (0, 2)), ((2, 0), (False, 2)), ((2, None), (0, 2)), None, 2, "ab",
        ]:
            self.raises_both_ways(NoSquares, bad, square_kit, ("table",), (bad,))

    def test_squares_of_a_square(self):
        for table in TABLES:
            kit = square_kit(table)
            for zoom in (0, 1, 7, 60):
                x, y = times(power(table, zoom), (1, 1))
                rows, lines = [sorted({part + near for part in (0, far) for near in (-2, -1, 0, 1)}) for far in (x, y)]
                for p, q in all_of(rows, lines):
                    inner = min(0, x) - 1 <= p <= max(0, x) and min(0, y) - 1 <= q <= max(0, y)
                    self.assertIs(shown(kit, 0, zoom, (p, q)), inner)

    def test_shown_squares_of_a_square(self):
        for table in TABLES:
            kit = square_kit(table)
            for zoom in range(6 if len(kit[1][0]) < 7 else 4):
                x, y = times(power(table, zoom), (1, 1))
                told = list(all_of(range(min(0, x) - 1, max(0, x) + 1), range(min(0, y) - 1, max(0, y) + 1)))
                self.assertEqual(shown_squares(kit, 0, zoom), told)


class ShownTest(Base):
    def check(self, kit, state, zooms):
        for zoom in zooms:
            lots = told_lots(kit, state, zoom)
            self.assertEqual(shown_squares(kit, state, zoom), sorted(lots))
            for square in around(kit, state, zoom):
                told = lot_of(kit, state, zoom, square)
                self.assertEqual(told, lots.get(square, ()))
                self.assertIs(shown(kit, state, zoom, square), square in lots)

    def test_by_hand(self):
        self.assertEqual(self.both_ways(shown_squares, NAMES[:3], (DUST, 0, 0)),
                         [(-1, -1), (-1, 0), (0, -1), (0, 0), (1, -1), (1, 0)])
        self.assertEqual(shown_squares(DUST, 0, 1), [
            (x, y) for x in (-1, 0, 1, 2, 3) for y in (-1, 0)
        ])
        self.assertIs(self.both_ways(shown, NAMES, (DUST, 0, 2, (4, 0))), False)
        self.assertIs(self.both_ways(shown, NAMES, (DUST, 0, 2, (5, -1))), True)
        self.assertEqual(self.both_ways(lot_of, NAMES, (DUST, 0, 1, (1, 0))), ((0, (-1, 0)), (0, (1, 0))))
        self.assertEqual(lot_of(DUST, 0, 1, (0, 0)), ((0, (0, 0)),))
        self.assertEqual(lot_of(DUST, 0, 1, (1, 1)), ())
        self.assertEqual(lot_of(BLOCK, 0, 1, (0, 0)), ((0, (0, 0)), (0, (0, 1)), (0, (1, 0)), (0, (1, 1))))
        self.assertEqual(lot_of(FOUR, 2, 60, (-1, 0)), ((2, (1, 0)),))
        self.assertEqual(lot_of(FOUR, 3, 0, (2, -1)), ((3, (-2, 1)),))

    def test_small_kits_as_the_document_words_it(self):
        for kit, state in SMALL_KITS:
            self.check(kit, state, range(4))

    def test_made_kits(self):
        for kit, state in made_kits():
            self.check(kit, state, range(3 if len(kit[1]) > 4 else 4))

    def test_drawn_kits(self):
        for kit in drawn_kits(11, 60):
            self.check(kit, 0, range(3))

    def test_greater_zooms(self):
        for kit, state in [(GASKET, 0), (SIDE, 0), (DUST, 0), (GOLDEN, 1), (CROSSED, 0), (STEPPED, 1), (FOUR, 1)]:
            self.check(kit, state, (4, 5))
        for kit in drawn_kits(12, 12, copies=2):
            self.check(kit, 0, (4, 5))

    def test_the_first_zoom_tells_what_touches_the_square(self):
        for kit, state in SMALL_KITS:
            self.assertEqual(shown_squares(kit, state, 0),
                             sorted((-x, -y) for x, y in told_touching(kit)[state]))

    def test_lists_are_new(self):
        for call, values in ((shown_squares, (BLOCK, 0, 1)), (kinds, (BLOCK, 0))):
            told = call(*values)
            kept = list(told)
            told.clear()
            told.append(0)
            self.assertEqual(call(*values), kept)
            self.assertIsNot(call(*values), call(*values))

    def test_any_question_behind_any_other(self):
        asked = [(shown_squares, (kit, state, 2)) for kit, state in SMALL_KITS[:8]]
        asked += [(lot_of, (kit, state, 3, (1, 1))) for kit, state in SMALL_KITS[:8]]
        asked += [(shown, (kit, state, 9, (3, 0))) for kit, state in SMALL_KITS[:8]]
        asked += [(kinds, (kit, state)) for kit, state in SMALL_KITS[:8]]
        first = [call(*values) for call, values in asked]
        self.assertEqual([call(*values) for call, values in reversed(asked)], first[::-1])


class GreatZoomTest(Base):
    def check_near(self, kit, state, zoom, square):
        x, y = square
        near = [(x + p, y + q) for p, q in [(0, 0), (-1, 0), (1, -2), (-2, -1), (5, 3), (0, 1)]]
        for there, told in zip(near, told_far_lots(kit, state, zoom, square, near)):
            self.assertEqual(lot_of(kit, state, zoom, there), told)
            self.assertIs(shown(kit, state, zoom, there), told != ())

    def test_near_the_picture(self):
        for kit, state in SMALL_KITS + made_kits()[:7]:
            for zoom, (step, _) in zip((60, 23, 9), kit[1][state]):
                self.check_near(kit, state, zoom, times(power(kit[0], zoom - 1), step))

    def test_along_walks(self):
        for kit in drawn_kits(13, 30):
            x, y, at = 0, 0, 0
            for zoom in range(1, 61):
                step, at = kit[1][at][zoom * zoom % 7 % len(kit[1][at])]
                x, y = taken(kit[0], (x, y))
                x, y = x + step[0], y + step[1]
            p, q = told_touching(kit)[at][0]
            self.assertIn((at, (p, q)), lot_of(kit, 0, 60, (x - p, y - q)))
            self.check_near(kit, 0, 60, (x - p, y - q))

    def test_far_off(self):
        for kit, state in SMALL_KITS:
            for square in [(10 ** 400, 0), (0, -10 ** 400), (-10 ** 90, 10 ** 90), (3 ** 61, 0), (-9 ** 60, 5)]:
                for zoom in (0, 1, 60):
                    self.assertIs(shown(kit, state, zoom, square), False)
                    self.assertEqual(lot_of(kit, state, zoom, square), ())

    def test_parts_of_squares(self):
        """What is shown at a zoom is within the table times what is shown at the one ahead, in all of its parts."""
        for kit, state in [(BLOCK, 0), (CARPET, 0), (BACKWARD, 1), (CROSSED, 0), (STEPPED, 0)]:
            square = times(power(kit[0], 40), kit[1][state][-1][0])
            for zoom in range(41, 46):
                x, y = taken(kit[0], square)
                parts = [(x + p, y + q) for p, q in told_parts(kit[0])]
                there = [part for part in parts if shown(kit, state, zoom, part)]
                self.assertIs(len(there) > 0, shown(kit, state, zoom - 1, square))
                square = (there + parts)[0]


class KindsTest(Base):
    def test_by_hand(self):
        self.assertEqual(self.both_ways(kinds, ("kit", "state"), (FOUR, 2)), [
            ((2, (x, y)),) for x in (0, 1) for y in (0, 1)
        ])
        self.assertEqual(len(kinds(BLOCK, 0)), 30)
        self.assertEqual(kinds(DUST, 0),
            sorted(set(told_lots(DUST, 0, 0).values()) | set(told_lots(DUST, 0, 1).values())))

    def test_as_the_document_words_it(self):
        for kit, state in SMALL_KITS + made_kits():
            if few_kinds(kit, state, 60) and sum(map(len, kit[1])) < 40:
                self.assertEqual(kinds(kit, state), sorted(told_ways(kit, state)))

    def test_drawn_kits(self):
        tried = 0
        for kit in drawn_kits(14, 120):
            if few_kinds(kit, 0, 30):
                self.assertEqual(kinds(kit, 0), sorted(told_ways(kit, 0)))
                tried += 1
        self.assertGreater(tried, 40)

    def test_of_all_zooms(self):
        for kit, state in SMALL_KITS:
            told = kinds(kit, state)
            for row in told:
                self.all_tuples(row)
            self.assertEqual(told, sorted(set(told)))
            for zoom in range(3):
                for lot in told_lots(kit, state, zoom).values():
                    self.assertIn(lot, told)


class ErrorsTest(Base):
    def each(self):
        yield shown, NAMES, (3, (0, 0))
        yield lot_of, NAMES, (3, (0, 0))
        yield shown_squares, NAMES[:3], (3,)
        yield kinds, NAMES[:2], ()

    def test_no_kit(self):
        for call, names, more in self.each():
            for bad in NO_KITS:
                self.raises_both_ways(InvalidKit, bad, call, names, (bad, 0) + more)
            self.raises_both_ways(InvalidKit, NO_KITS[3], call, names, (NO_KITS[3], -1) + (None,) * len(more))

    def test_no_squares(self):
        for call, names, more in self.each():
            for bad in NO_SQUARES:
                self.raises_both_ways(NoSquares, bad[0], call, names, (bad, 0) + more)
                self.raises_both_ways(NoSquares, bad[0], call, names, (bad, 17) + (-1,) * len(more))

    def test_no_state(self):
        for call, names, more in self.each():
            for bad in NO_STATES:
                self.raises_both_ways(InvalidState, bad, call, names, (BLOCK, bad) + more)
            self.raises_both_ways(InvalidState, 9, call, names, (FOUR, 9) + (-1,) * len(more))

    def test_no_zoom(self):
        for call, names, more in list(self.each())[:3]:
            for bad in NO_ZOOMS:
                self.raises_both_ways(InvalidZoom, bad, call, names, (BLOCK, 0, bad) + more[1:])
            self.raises_both_ways(InvalidZoom, -4, call, names, (BLOCK, 0, -4) + (None,) * (len(more) - 1))

    def test_no_offset(self):
        for call in (shown, lot_of):
            for bad in NO_OFFSETS:
                self.raises_both_ways(InvalidOffset, bad, call, NAMES, (BLOCK, 0, 3, bad))

    def test_arguments_are_as_they_were(self):
        kit = (THREE, ((((0, 0), 0), ((0, 1), 0)),))
        told = joined(THICK, ((0, (0, 0)), (1, (1, 0))))
        kept = joined(THICK, ((0, (0, 0)), (1, (1, 0))))
        shown(kit, 0, 3, (1, 1)), shown_squares(told, 2, 2), kinds(told, 2)
        self.assertEqual((kit, told), ((THREE, ((((0, 0), 0), ((0, 1), 0)),)), kept))

    def test_each_is_defined_in_squares(self):
        for name in ("square_kit", "shown", "lot_of", "shown_squares", "kinds"):
            self.assertEqual(getattr(squares, name).__module__, "selfkits.squares")


if __name__ == "__main__":
    unittest.main()
