"""Points [5] to [11] over all sections: what one tells is handed to the others, and nothing is shared."""

import unittest
from copy import deepcopy

from samples import BLOCK, CHAIN, DRAGON, DUST, FOUR, SIDE, STILL, Base, both_reaches, fraction
from selfkits.addresses import ends, is_address, is_walk, plain, point_of, walks
from selfkits.consoles import Console
from selfkits.counts import area, count, rule
from selfkits.hulls import box, greatest, is_greatest, returns, width
from selfkits.insides import classes, inside, is_inside, same
from selfkits.kits import is_kit, joined, met, powered, reached
from selfkits.makes import alone, folded, moved, side_by_side, turned, turns_of
from selfkits.meets import do_meet, is_meeting, meets, triples
from selfkits.pictures import drawn, first_unlike, parts_of
from selfkits.pieces import hangs, is_hanging, lots_of, together
from selfkits.points import addresses, has, is_had, is_in
from selfkits.rates import faster, fills, rate
from selfkits.readers import read_address, read_kit, read_number, read_point
from selfkits.squares import kinds, lot_of, shown, shown_squares, square_kit
from selfkits.tables import axes, determinant, power, times, undone
from selfkits.texts import show_address, show_kit, show_number, show_point, show_rows
from selfkits.turns import is_kept, keeps
from tiles import GASKET, GOLDEN, SMALL_KITS, STEPPED, drawn_kits, few_kinds, made_kits

CASES = [(kit, state) for kit, state in SMALL_KITS if kit[0] != STEPPED[0]]
CASES += [(DRAGON, 0), (STILL, 0)] + made_kits()[:5] + [(kit, 0) for kit in drawn_kits(71, 20, far=1)]


# For lots each state has at most as many copies as the determinant, and there are few lots.
FEW = [(kit, state) for kit, state in CASES
       if max(map(len, kit[1])) <= abs(determinant(kit[0])) and both_reaches(kit, kit) < 6 and kit != DRAGON]


def near(number):
    """The greatest integer that is not above a number."""
    return number[0] // number[1]


class HandedOnTest(Base):
    def test_addresses(self):
        for kit, state in CASES:
            for way in ((1, 0), (-1, 0), (1, 1), (2, -1)):
                if returns(kit[0], way) is None:
                    continue
                told = greatest(kit, state, way)
                self.assertIs(is_greatest(kit, state, way, told), True)
                address = told[1]
                self.assertIs(is_address(kit, state, address), True)
                point = point_of(kit, state, address)
                self.assertEqual(way[0] * fraction(point[0]) + way[1] * fraction(point[1]), fraction(told[0]))
                self.check_point(kit, state, address, point)

    def check_point(self, kit, state, address, point):
        """A point that comes of an address goes on through points, texts, squares and walks."""
        self.assertIs(is_in(kit, state, point), True)
        told = has(kit, state, point)
        self.assertEqual(told[0], "in")
        self.assertIs(is_had(kit, state, point, told), True)
        self.assertIs(is_had(kit, state, point, ("in", address)), True)
        row = addresses(kit, state, point)
        if row is not None:
            self.assertIn(plain(kit, state, address), row)
            self.assertIn(plain(kit, state, told[1]), row)
        self.assertEqual(read_point(show_point(point)), point)
        self.assertEqual(read_address(show_address(address)), address)
        left, low, right, high = [fraction(part) for part in box(kit, state)]
        self.assertTrue(left <= fraction(point[0]) <= right and low <= fraction(point[1]) <= high)
        walk = (address[0] + address[1] * 4)[:4]
        at, offset = ends(kit, state, walk)
        self.assertIs(is_walk(kit, state, walk), True)
        # The piece of the walk has the point: undone so often, and moved, it is in the state's picture at its end.
        there = point
        for place in walk:
            there = self.led(kit, there)
        there = tuple(((x[0] - p * x[1]), x[1]) for x, p in zip(there, offset))
        self.assertIs(is_in(kit, at, there), True)
        if axes(kit[0]) == 1:
            square = tuple(near(part) for part in self.led_on(kit, point, 3))
            self.assertIs(shown(kit, state, 3, square), True)
            self.assertIn(square, shown_squares(kit, state, 3))
            self.assertIn(lot_of(kit, state, 3, square), kinds(kit, state))

    def led(self, kit, point):
        (a, b), (c, d) = kit[0]
        x, y = fraction(point[0]), fraction(point[1])
        return tuple((part.numerator, part.denominator) for part in (a * x + b * y, c * x + d * y))

    def led_on(self, kit, point, n):
        for _ in range(n):
            self.assertEqual(undone(kit[0], self.led(kit, point)), point)
            point = self.led(kit, point)
        return point

    def test_meetings_and_hangings(self):
        for kit, state in CASES:
            told = hangs(kit, state)
            self.assertIs(is_hanging(kit, state, told), True)
            if told[0] == "whole":
                for at, tree in told[1]:
                    for a, b, first, second in tree:
                        (v, i), (w, j) = kit[1][at][a], kit[1][at][b]
                        offset = (w[0] - v[0], w[1] - v[1])
                        self.assertIs(is_meeting(kit, i, kit, j, offset, ("meet", first, second)), True)
                        point = point_of(kit, i, first)
                        shared = met(kit, i, j, offset)
                        self.assertIs(is_in(shared, 0, point), True)
                        # The address of the copy's state, with the copy ahead, is one of the whole state.
                        self.assertIs(is_address(kit, at, ((a,) + first[0], first[1])), True)
            else:
                for a, b, paper in told[3]:
                    (v, i), (w, j) = kit[1][told[1]][a], kit[1][told[1]][b]
                    offset = (w[0] - v[0], w[1] - v[1])
                    self.assertIs(is_meeting(kit, i, kit, j, offset, ("apart", paper)), True)
                    self.assertEqual(triples(kit, i, kit, j, offset), [])
                self.assertGreater(len(lots_of(kit, told[1])), 1)

    def test_inside_and_same(self):
        self.assertGreater(len(FEW), 20)
        for kit, state in FEW:
            made = side_by_side(kit, moved(kit, state, (1, -1)))
            last = len(made[1]) - 1
            told = same(kit, state, made, last, (-1, 1))
            self.assertEqual(told[0], "same")
            self.assertIs(is_inside(kit, state, made, last, (-1, 1), ("inside", told[1])), True)
            self.assertIs(is_inside(made, last, kit, state, (1, -1), ("inside", told[2])), True)
            self.assertIn(state, next(row for row in classes(made) if len(kit[1]) + state in row))
            small = folded(made)
            place = next(at for at, row in enumerate(classes(made)) if state in row)
            self.assertEqual(same(small, place, kit, state, (0, 0))[0], "same")
            told = inside(kit, state, made, last, (0, 0))
            self.assertIs(is_inside(kit, state, made, last, (0, 0), told), True)
            if told[0] == "outside":
                at, offset = ends(kit, state, told[1])
                self.assertIs(is_walk(kit, state, told[1]), True)
                # The piece, so often times the table, has no point in common with the other picture's.
                for walk in walks(made, last, len(told[1])) if len(told[1]) < 3 else []:
                    there, (x, y) = ends(made, last, walk)
                    self.assertIs(do_meet(kit, at, made, there, (x - offset[0], y - offset[1])), False)

    def test_turns_and_offsets(self):
        for kit, state in FEW:
            for turn, offset in keeps(kit, state):
                self.assertIs(is_kept(kit, state, turn, offset), True)
                made = moved(turned(kit, turn), state, offset)
                self.assertEqual(same(made, len(kit[1]), kit, state, (0, 0))[0], "same")
                if all(returns(kit[0], way) for way in ((1, 0), (0, 1))):
                    self.assertEqual(box(made, len(kit[1])), box(kit, state))
                if axes(kit[0]) == 1:
                    self.assertIsNone(first_unlike(made, len(kit[1]), kit, state, 2))
                    self.assertEqual(shown_squares(made, len(kit[1]), 2), shown_squares(kit, state, 2))

    def test_squares_rules_and_rates(self):
        for kit, state in CASES:
            if axes(kit[0]) != 1:
                n = axes(kit[0])
                kit = powered(kit, n) if n and n < 4 else square_kit(((2, 0), (0, 2)))
                state = min(state, len(kit[1]) - 1)
            if not few_kinds(kit, state, 60):
                continue
            firsts, parts = rule(kit, state)
            numbers = list(firsts)
            for zoom in range(len(firsts), 8):
                numbers.append(sum(part[0] * numbers[-1 - n] for n, part in enumerate(parts)))
            for zoom in range(8):
                self.assertEqual(count(kit, state, zoom), numbers[zoom])
            rows = drawn(kit, state, 2, -20, -20, 40, 40)
            there = [square for square in shown_squares(kit, state, 2) if max(map(abs, square)) < 20]
            self.assertEqual(sum(row.count("#") for row in rows), len([
                1 for x, y in shown_squares(kit, state, 2) if -20 <= x < 20 and -20 <= y < 20
            ]))
            for x, y in there[:5]:
                self.assertEqual(rows[19 - y][x + 20], "#")
                for part in parts_of(kit, state, 2, (x, y)):
                    self.assertIs(shown(kit, state, 3, part), True)
            self.assertIs(fills(kit, state), rate(kit, state)[1] == (abs(determinant(kit[0])), 1))
            square = square_kit(kit[0])
            self.assertEqual(faster(kit, state, square, 0), 0 if fills(kit, state) else -1)
            # The lots of a square tell the pictures that make up what is there: shared, they meet the square.
            for l, offset in lot_of(kit, state, 2, there[0] if there else shown_squares(kit, state, 2)[0]):
                self.assertIs(do_meet(square, 0, kit, l, offset), True)

    def test_a_picture_within_the_square_that_shows_it(self):
        for kit, state in [(GASKET, 0), (GOLDEN, 0), (DUST, 0), (SIDE, 0)]:
            for zoom in (0, 1):
                parts = tuple((0, square) for square in shown_squares(kit, state, zoom))
                cover = joined(square_kit(kit[0]), parts)
                # The picture, so often times the table, is that of the copies of all walks of so many steps.
                pieces = tuple(ends(kit, state, walk) for walk in walks(kit, state, zoom))
                whole = joined(kit, pieces)
                self.assertEqual(inside(whole, len(kit[1]), cover, 1, (0, 0))[0], "inside")
                for square in shown_squares(kit, state, zoom)[::3]:
                    self.assertIs(do_meet(whole, len(kit[1]), square_kit(kit[0]), 0, square), True)

    def test_kits_of_kits_through_texts(self):
        for kit, state in CASES:
            for made in (powered(kit, 2), moved(kit, state, (3, 1)), alone(kit, state), side_by_side(kit, kit),
                folded(kit)):
                self.assertTrue(is_kit(made))
                self.assertEqual(read_kit(show_kit(made)), made)
            for number in box(kit, state) if all(returns(kit[0], way) for way in ((1, 0), (0, 1))) else ():
                self.assertEqual(read_number(show_number(number)), number)


class NothingSharedTest(Base):
    """Lists that are told are new at every depth, and what is handed in stays as it was."""

    def calls(self):
        yield walks, (BLOCK, 0, 2)
        yield triples, (BLOCK, 0, BLOCK, 0, (1, 0))
        yield addresses, (SIDE, 0, ((0, 1), (1, 2)))
        yield shown_squares, (GASKET, 0, 2)
        yield kinds, (GASKET, 0)
        yield together, (BLOCK, 0)
        yield lots_of, (DUST, 0)
        yield keeps, (BLOCK, 0)
        yield drawn, (DUST, 0, 2, 0, -1, 9, 2)

    def test_lists_are_new(self):
        for call, values in self.calls():
            told = call(*values)
            self.assertIs(type(told), list)
            self.assertGreater(len(told), 0)
            for part in told:
                if type(part) is not str:
                    self.all_tuples(part)
            kept = deepcopy(told)
            told.reverse()
            told.append(told[0])
            told[0] = None
            self.assertEqual(call(*values), kept)
            self.assertIsNot(call(*values), call(*values))

    def test_all_else_is_tuples(self):
        for told in [
            power(BLOCK[0], 3), times(BLOCK[0], (1, 2)), undone(BLOCK[0], ((1, 2), (3, 1))), powered(GASKET, 2),
            joined(SIDE, ((0, (1, 1)),)), met(BLOCK, 0, 0, (1, 0)), reached(CHAIN, 0), ends(CHAIN, 0, (0,)),
            point_of(BLOCK, 0, ((), (1,))), plain(BLOCK, 0, ((1,), (1, 1))), meets(BLOCK, 0, BLOCK, 0, (1, 0)),
            meets(SIDE, 0, SIDE, 0, (1, 0)), inside(SIDE, 0, BLOCK, 0, (0, 0)), inside(BLOCK, 0, SIDE, 0, (0, 0)),
            same(BLOCK, 0, FOUR, 0, (0, 0)), classes(FOUR), has(BLOCK, 0, ((1, 2), (1, 3))),
            has(BLOCK, 0, ((4, 3), (1, 3))),
            square_kit(BLOCK[0]), lot_of(BLOCK, 0, 1, (0, 0)), rule(BLOCK, 0), area(BLOCK, 0), rate(BLOCK, 0),
            turns_of(BLOCK),
            moved(SIDE, 0, (1, 0)), turned(SIDE, turns_of(SIDE)[0]), alone(CHAIN, 1), side_by_side(SIDE, BLOCK),
            folded(FOUR),
            hangs(FOUR, 3), hangs(DUST, 0), returns(BLOCK[0], (1, 2)), greatest(CHAIN, 0, (1, 0)), box(BLOCK, 0),
            width(BLOCK, 0, (1, 1)), parts_of(BLOCK, 0, 0, (0, 0)), first_unlike(BLOCK, 0, SIDE, 0, 2),
            read_kit(show_kit(FOUR)),
            read_address("1 ( 0 )"), read_point("1/2 3"), read_number("1"),
        ]:
            self.all_tuples(told)

    def test_what_is_handed_in_stays(self):
        rows = ["#.", ".#"]
        self.assertEqual(show_rows(rows), "#.\n.#")
        self.assertEqual(rows, ["#.", ".#"])
        kit = deepcopy(FOUR)
        for call, values in [
            (keeps, (kit, 3)), (kinds, (kit, 3)), (hangs, (kit, 3)), (classes, (kit,)), (folded, (kit,)),
            (rule, (kit, 3)),
            (show_kit, (kit,)), (drawn, (kit, 3, 2, 0, 0, 3, 3)),
        ]:
            call(*values)
            self.assertEqual(kit, FOUR)

    def test_a_consoles_kits_stay(self):
        console = Console()
        console.keep("a", FOUR)
        for text in ["powered b a 2", "folded c a", "show a", "moved a a 0 1 1", "undo", "count a 3 4", "whole a 3",
            "drop b", "names"]:
            console.order(text)
        self.assertEqual(console.kit("a"), FOUR)
        told = console.names()
        told.clear()
        self.assertEqual(console.names(), ["a", "c"])
        self.assertEqual(repr(console.kit("a")), repr(FOUR))


if __name__ == "__main__":
    unittest.main()
