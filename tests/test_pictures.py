"""pictures.py: points [6], [7] and [11], drawn pictures, parts and unlike squares, and the errors of the section."""

import unittest
from itertools import product as all_of

from samples import BLOCK, DRAGON, DUST, FOUR, NO_KITS, NO_OFFSETS, NO_STATES, SIDE, Base, taken
from selfkits import pictures
from selfkits.errors import InvalidKit, InvalidNumber, InvalidOffset, InvalidPair, InvalidState, InvalidZoom, NoSquares
from selfkits.insides import same
from selfkits.makes import moved
from selfkits.pictures import drawn, first_unlike, parts_of
from selfkits.squares import shown, square_kit
from selfkits.tables import power, times
from test_squares import NO_ZOOMS, around
from tiles import (
    CARPET, CROSSED, GASKET, GOLDEN, NO_SQUARES, SMALL_KITS, STEPPED, TABLES, THICK, drawn_kits, made_kits,
    told_far_lots,
    told_lots, told_parts, told_touching,
)

DRAWN = ("kit", "state", "zoom", "left", "low", "wide", "high")
PARTS = ("kit", "state", "zoom", "square")
BOTH = ("one", "k", "other", "l", "most")
NO_NUMBERS = [True, False, None, "1", (1,), (1, 1)]


def told_rows(squares, left, low, wide, high):
    return [
        "".join("#" if (left + column, low + row) in squares else "." for column in range(wide))
        for row in reversed(range(high))
    ]


def told_unlike(one, k, other, l, most):
    for zoom in range(most + 1):
        unlike = set(told_lots(one, k, zoom)) ^ set(told_lots(other, l, zoom))
        if unlike:
            return (zoom, min(unlike))
    return None


class DrawnTest(Base):
    def test_by_hand(self):
        for values, rows in [
            ((DUST, 0, 2, 0, -1, 9, 2), ["####.####", "####.####"]), ((BLOCK, 0, 0, -1, -1, 3, 3), ["###"] * 3),
            ((BLOCK, 0, 0, -2, -2, 5, 5), [".....", ".###.", ".###.", ".###.", "....."]),
            ((GASKET, 0, 2, -1, -1, 6, 6), ["##....", "###...", "####..", "#####.", "######", "######"]),
            ((FOUR, 2, 7, -2, -3, 4, 5), ["....", ".##.", ".##.", "....", "...."]),
            ((square_kit(((0, -2), (2, 0))), 0, 1, -4, -2, 6, 5), [".####.", ".####.", ".####.", ".####.", "......"]),
        ]:
            self.assertEqual(self.both_ways(drawn, DRAWN, values), rows)

    def test_as_the_document_words_it(self):
        for kit, state in SMALL_KITS + made_kits():
            for zoom in range(3 if len(kit[1]) > 4 else 4):
                lots = told_lots(kit, state, zoom)
                left, low = min(x for x, _ in lots) - 2, min(y for _, y in lots) - 1
                for window in [(left, low, 40, 7), (left + 3, low, 5, 40), (-4, -4, 9, 9), (left - 50, low, 12, 2)]:
                    self.assertEqual(drawn(kit, state, zoom, *window), told_rows(lots, *window))
        for kit in drawn_kits(51, 40):
            for zoom in range(3):
                self.assertEqual(drawn(kit, 0, zoom, -9, -8, 18, 17),
                    told_rows(told_lots(kit, 0, zoom), -9, -8, 18, 17))

    def test_no_rows_and_no_columns(self):
        self.assertEqual(drawn(BLOCK, 0, 3, 0, 0, 0, 4), ["", "", "", ""])
        self.assertEqual(drawn(BLOCK, 0, 3, 0, 0, 4, 0), [])
        self.assertEqual(drawn(BLOCK, 0, 60, 10 ** 50, 0, 0, 0), [])
        self.assertEqual(drawn(BLOCK, 0, 0, 0, 0, 1, 1), ["#"])

    def test_at_great_zooms(self):
        for kit, state in SMALL_KITS:
            for zoom in (17, 60):
                x, y = times(power(kit[0], zoom - 1), kit[1][state][-1][0])
                squares = list(all_of(range(x - 2, x + 3), range(y - 1, y + 4)))
                lots = told_far_lots(kit, state, zoom, (x, y), squares)
                there = {square for square, lot in zip(squares, lots) if lot}
                self.assertEqual(drawn(kit, state, zoom, x - 2, y - 1, 5, 5), told_rows(there, x - 2, y - 1, 5, 5))

    def test_about_a_point_and_far_off(self):
        for kit in drawn_kits(52, 25):
            x, y, at = 0, 0, 0
            for zoom in range(60):
                step, at = kit[1][at][zoom % 5 % len(kit[1][at])]
                x, y = taken(kit[0], (x, y))
                x, y = x + step[0], y + step[1]
            p, q = told_touching(kit)[at][-1]
            rows = drawn(kit, 0, 60, x - p - 6, y - q - 4, 13, 9)
            self.assertEqual(rows[4][6], "#")
            for row, column in all_of(range(0, 9, 2), range(0, 13, 3)):
                self.assertIs(rows[8 - row][column] == "#", shown(kit, 0, 60, (x - p - 6 + column, y - q - 4 + row)))
            for left, low in [(10 ** 70, 0), (-10 ** 300, 10 ** 300), (x, y + 11 ** 60)]:
                self.assertEqual(drawn(kit, 0, 60, left, low, 40, 3), ["." * 40] * 3)

    def test_squares_of_a_square(self):
        for table in TABLES:
            x, y = times(power(table, 33), (1, 1))
            for left, low in all_of((0, x), (0, y)):
                there = {
                    (p, q) for p in range(left - 3, left + 3) for q in range(low - 3, low + 3)
                    if min(0, x) - 1 <= p <= max(0, x) and min(0, y) - 1 <= q <= max(0, y)
                }
                self.assertEqual(drawn(square_kit(table), 0, 33, left - 3, low - 3, 6, 6),
                                 told_rows(there, left - 3, low - 3, 6, 6))

    def test_lists_are_new(self):
        told = drawn(BLOCK, 0, 1, 0, 0, 3, 3)
        kept = list(told)
        told.append("")
        told[0] = 0
        self.assertEqual(drawn(BLOCK, 0, 1, 0, 0, 3, 3), kept)


class PartsTest(Base):
    def test_by_hand(self):
        for values, told in [
            ((BLOCK, 0, 0, (0, 0)), ((0, 0), (0, 1), (1, 0), (1, 1))), ((BLOCK, 0, 0, (1, 1)), ((2, 2),)),
            ((BLOCK, 0, 0, (2, 0)), ()), ((DUST, 0, 1, (1, 0)), ((3, 0), (5, 0))), ((DUST, 0, 1, (1, 1)), ()),
            ((FOUR, 2, 60, (-1, -1)), ((-1, -1),)),
        ]:
            self.assertEqual(self.both_ways(parts_of, PARTS, values), told)

    def test_as_the_document_words_it(self):
        for kit, state in SMALL_KITS + made_kits()[:7] + [(kit, 0) for kit in drawn_kits(53, 30)]:
            for zoom in range(3):
                later = told_lots(kit, state, zoom + 1)
                for square in around(kit, state, zoom):
                    x, y = taken(kit[0], square)
                    told = sorted((x + p, y + q) for p, q in told_parts(kit[0]) if (x + p, y + q) in later)
                    self.assertEqual(parts_of(kit, state, zoom, square), tuple(told))
                    if square not in told_lots(kit, state, zoom):
                        self.assertEqual(told, [])

    def test_at_great_zooms(self):
        for kit, state in [(GASKET, 0), (CARPET, 0), (CROSSED, 0), (STEPPED, 1), (THICK, 0), (GOLDEN, 1)]:
            x, y = times(power(kit[0], 59), kit[1][state][0][0])
            for p, q in all_of((-1, 0, 1), repeat=2):
                left, low = taken(kit[0], (x + p, y + q))
                told = [(left + m, low + n) for m,
                    n in told_parts(kit[0]) if shown(kit, state, 60, (left + m, low + n))]
                self.assertEqual(parts_of(kit, state, 59, (x + p, y + q)), tuple(told))
            self.assertEqual(parts_of(kit, state, 60, (10 ** 90, 0)), ())


class UnlikeTest(Base):
    def test_by_hand(self):
        for values, told in [
            ((BLOCK, 0, SIDE, 0, 2), (0, (1, -1))), ((SIDE, 0, BLOCK, 0, 0), (0, (1, -1))),
            ((BLOCK, 0, BLOCK, 0, 3), None),
            ((BLOCK, 0, FOUR, 0, 3), None), ((FOUR, 3, BLOCK, 0, 1), (0, (2, -1))),
            ((BLOCK, 0, GASKET, 0, 0), (0, (1, 1))),
            ((BLOCK, 0, moved(BLOCK, 0, (0, 1)), 1, 3), (0, (-1, -1))),
        ]:
            self.assertEqual(self.both_ways(first_unlike, BOTH, values), told)

    def test_as_the_document_words_it(self):
        found = set()
        rows = SMALL_KITS[:12] + [(kit, at) for kit in drawn_kits(54, 24, TABLES[::9]) for at in range(len(kit[1]))]
        rows += [(moved(kit, at, (0, 0)), len(kit[1])) for kit, at in SMALL_KITS[:6]]
        for at, (one, k) in enumerate(rows):
            for other, l in [row for row in rows if row[0][0] == one[0]][at % 5::3]:
                for most in (0, 3) if at % 2 == 0 else (1, 2):
                    told = told_unlike(one, k, other, l, most)
                    self.assertEqual(first_unlike(one, k, other, l, most), told)
                self.assertEqual(first_unlike(other, l, one, k, most), told)
                if told is None:
                    found.add(same(one, k, other, l, (0, 0))[0] == "same")
                else:
                    found.add(told[0])
        # Pictures that are the same are never unlike, and others may be shown alike at all zooms to 3.
        self.assertLessEqual({True, 0, 1, 2}, found)


class ErrorsTest(Base):
    def each(self):
        yield drawn, DRAWN, (2, 0, 0, 3, 3)
        yield parts_of, PARTS, (2, (0, 0))

    def test_no_kit(self):
        for call, names, more in self.each():
            for bad in NO_KITS:
                self.raises_both_ways(InvalidKit, bad, call, names, (bad, 0) + more)
            self.raises_both_ways(InvalidKit, NO_KITS[3], call, names, (NO_KITS[3], -1) + (None,) * len(more))
        for bad in NO_KITS:
            self.raises_both_ways(InvalidKit, bad, first_unlike, BOTH, (bad, 0, BLOCK, 0, 1))
            self.raises_both_ways(InvalidKit, bad, first_unlike, BOTH, (BLOCK, 0, bad, 0, 1))
            self.raises_both_ways(InvalidKit, bad, first_unlike, BOTH, (NO_SQUARES[0], 9, bad, 9, None))
        self.raises_both_ways(InvalidKit, NO_KITS[1], first_unlike, BOTH, (NO_KITS[1], 0, NO_KITS[2], 0, 1))

    def test_unlike_tables(self):
        for one, other in [(BLOCK, DUST), (DRAGON, BLOCK), (BLOCK, DRAGON), (CROSSED, GOLDEN)]:
            self.raises_both_ways(InvalidPair, (one, other), first_unlike, BOTH, (one, 0, other, 0, 1))
            self.raises_both_ways(InvalidPair, (one, other), first_unlike, BOTH, (one, 7, other, True, None))

    def test_no_squares(self):
        for bad in NO_SQUARES:
            for call, names, more in self.each():
                self.raises_both_ways(NoSquares, bad[0], call, names, (bad, 0) + more)
                self.raises_both_ways(NoSquares, bad[0], call, names, (bad, 17) + (None,) * len(more))
            self.raises_both_ways(NoSquares, bad[0], first_unlike, BOTH, (bad, 0, bad, 0, 1))
            self.raises_both_ways(NoSquares, bad[0], first_unlike, BOTH, (bad, 9, bad, 9, None))

    def test_no_state(self):
        for bad in NO_STATES:
            for call, names, more in self.each():
                self.raises_both_ways(InvalidState, bad, call, names, (BLOCK, bad) + more)
            self.raises_both_ways(InvalidState, bad, first_unlike, BOTH, (BLOCK, bad, FOUR, 0, 1))
            self.raises_both_ways(InvalidState, bad, first_unlike, BOTH, (FOUR, 3, BLOCK, bad, 1))
        self.raises_both_ways(InvalidState, 7, first_unlike, BOTH, (BLOCK, 7, BLOCK, 8, -1))
        self.raises_both_ways(InvalidState, 8, first_unlike, BOTH, (BLOCK, 0, BLOCK, 8, -1))
        for call, names, more in self.each():
            self.raises_both_ways(InvalidState, 9, call, names, (FOUR, 9) + (-1,) * len(more))

    def test_no_zoom(self):
        for bad in NO_ZOOMS:
            for call, names, more in self.each():
                self.raises_both_ways(InvalidZoom, bad, call, names, (BLOCK, 0, bad) + more[1:])
                self.raises_both_ways(InvalidZoom, bad, call, names, (BLOCK, 0, bad) + (None,) * len(more[1:]))
            self.raises_both_ways(InvalidZoom, bad, first_unlike, BOTH, (BLOCK, 0, SIDE, 0, bad))

    def test_no_offset(self):
        for bad in NO_OFFSETS:
            self.raises_both_ways(InvalidOffset, bad, parts_of, PARTS, (BLOCK, 0, 3, bad))

    def test_no_number(self):
        for at in range(4):
            for bad in NO_NUMBERS + ([-1, -10 ** 30] if at > 1 else []):
                values = [1, 1, 1, 1]
                values[at] = bad
                self.raises_both_ways(InvalidNumber, bad, drawn, DRAWN, (BLOCK, 0, 1) + tuple(values))
                values[at + 1:] = ["a"] * (3 - at)
                self.raises_both_ways(InvalidNumber, bad, drawn, DRAWN, (BLOCK, 0, 1) + tuple(values))
        self.raises_both_ways(InvalidNumber, -1, drawn, DRAWN, (BLOCK, 0, 1, 0, 0, -1, None))
        self.raises_both_ways(InvalidNumber, -2, drawn, DRAWN, (BLOCK, 0, 1, 0, 0, 0, -2))
        self.assertEqual(drawn(BLOCK, 0, 1, -1, -1, 1, 1), ["#"])

    def test_any_question_behind_any_other(self):
        asked = [(drawn, (kit, state, 5, 0, 0, 9, 4)) for kit, state in SMALL_KITS]
        asked += [(parts_of, (kit, state, 2, (0, 0))) for kit, state in SMALL_KITS]
        asked += [(first_unlike, (BLOCK, 0, kit, state, 2)) for kit, state in SMALL_KITS if kit[0] == BLOCK[0]]
        first = [call(*values) for call, values in asked]
        self.assertEqual([call(*values) for call, values in reversed(asked)], first[::-1])

    def test_each_is_defined_in_pictures(self):
        for name in ("drawn", "parts_of", "first_unlike"):
            self.assertEqual(getattr(pictures, name).__module__, "selfkits.pictures")


if __name__ == "__main__":
    unittest.main()
