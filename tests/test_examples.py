"""The examples of the interface, as they stand in the document, and those of README.md."""

import doctest
import os
import unittest

TABLES = """
>>> from selfkits.tables import axes, is_growing, power, times, undone
>>> turn = ((1, -1), (1, 1))
>>> [is_growing(turn), is_growing(((1, 1), (0, 2))), power(turn, 2), axes(turn), axes(((2, 1), (0, 2)))]
[True, False, ((0, -2), (2, 0)), 2, None]
>>> [times(turn, (1, 0)), undone(turn, ((1, 1), (0, 1)))]
[(1, 1), ((1, 2), (-1, 2))]
"""

KITS = """
>>> from selfkits.kits import is_kit, met, powered, reach, reached
>>> two = ((2, 0), (0, 2))
>>> block = (two, ((((0, 0), 0), ((0, 1), 0), ((1, 0), 0), ((1, 1), 0)),))
>>> side = (two, ((((0, 0), 0), ((0, 1), 0)),))
>>> [is_kit(block), reach(block), reached(block, 0), len(powered(block, 2)[1][0]), len(met(block, 0, 0, (1, 0))[1])]
[True, 1, (0,), 16, 3]
"""

ADDRESSES = """
>>> from selfkits.addresses import ends, plain, point_of, walks
>>> [point_of(block, 0, ((3,), (0,))), point_of(block, 0, ((), (2,))), ends(block, 0, (3, 0)), plain(block, 0, ((2, 1), (2, 1, 2, 1))), len(walks(side, 0, 3))]
[((1, 2), (1, 2)), ((1, 1), (0, 1)), (0, (2, 2)), ((), (2, 1)), 8]
"""

MEETS = """
>>> from selfkits.meets import do_meet, is_meeting, meets
>>> [do_meet(block, 0, block, 0, (1, 1)), do_meet(block, 0, block, 0, (2, 0)), do_meet(side, 0, block, 0, (-1, 0))]
[True, False, True]
>>> [is_meeting(block, 0, block, 0, (1, 0), ('meet', ((), (2,)), ((), (0,)))), is_meeting(side, 0, side, 0, (1, 0), ('apart', ()))]
[True, False]
"""

INSIDES = """
>>> from selfkits.insides import inside, is_inside, same
>>> other = (two, ((((0, 0), 1), ((0, 1), 1), ((1, 0), 1), ((1, 1), 1)), (((0, 0), 0), ((0, 1), 0), ((1, 0), 0), ((1, 1), 0))))
>>> [same(block, 0, other, 1, (0, 0))[0], same(side, 0, block, 0, (0, 0)), inside(side, 0, block, 0, (0, 0))[0]]
['same', ('other', (2, 2)), 'inside']
"""

POINTS = """
>>> from selfkits.points import addresses, is_in
>>> [is_in(block, 0, ((1, 3), (1, 1))), is_in(block, 0, ((4, 3), (0, 1))), addresses(side, 0, ((0, 1), (1, 2)))]
[True, False, [((0,), (1,)), ((1,), (0,))]]
"""

MAKES = """
>>> from selfkits.makes import alone, folded, moved, turned, turns_of
>>> [len(turns_of(block)), turned(side, ((0, 1), (1, 0)))[1], moved(side, 0, (1, 0))[1][1], len(folded(other)[1]), folded(other) == block]
[8, ((((0, 0), 0), ((1, 0), 0)),), (((2, 0), 0), ((2, 1), 0)), 1, True]
"""

HULLS = """
>>> from selfkits.hulls import box, greatest, returns, width
>>> [returns(two, (1, 2)), returns(turn, (1, 0)), box(block, 0), greatest(dust, 0, (1, 0)), width(block, 0, (1, 1))]
[(1, (1, 2)), (8, (1, 16)), ((0, 1), (0, 1), (1, 1), (1, 1)), ((1, 1), ((), (1,)), (((1, 1),),)), (2, 1)]
"""

TURNS = """
>>> from selfkits.turns import is_kept, keeps
>>> [len(keeps(block, 0)), keeps(side, 0)[0], is_kept(dust, 0, ((-1, 0), (0, 1)), (1, 0))]
[8, (((-1, 0), (0, -1)), (0, 1)), True]
"""

SQUARES = """
>>> from selfkits.squares import shown, shown_squares, square_kit
>>> carpet = (((3, 0), (0, 3)), ((((0, 0), 0), ((0, 1), 0), ((0, 2), 0), ((1, 0), 0), ((1, 2), 0), ((2, 0), 0)),))
>>> [square_kit(two) == block, shown(block, 0, 0, (-1, 0)), shown(block, 0, 1, (3, 0)), len(shown_squares(block, 0, 0))]
[True, True, False, 9]
"""

COUNTS = """
>>> from selfkits.counts import area, count, rule
>>> [count(block, 0, 0), count(block, 0, 3), rule(block, 0), area(block, 0), area(side, 0)]
[9, 100, ((9, 16, 36), ((7, 1), (-14, 1), (8, 1))), (1, 1), (0, 1)]
"""

RATES = """
>>> from selfkits.rates import faster, fills, rate
>>> [fills(block, 0), fills(side, 0), faster(block, 0, side, 0), rate(side, 0)[1:], rate(carpet, 0)[1:]]
[True, False, 1, ((2, 1), (2, 1)), ((6, 1), (6, 1))]
"""

PIECES = """
>>> from selfkits.pieces import hangs, is_hanging, lots_of, together
>>> dust = (((3, 0), (0, 3)), ((((0, 0), 0), ((2, 0), 0)),))
>>> [together(side, 0), lots_of(dust, 0), hangs(dust, 0)[:3], hangs(block, 0)[0], is_hanging(dust, 0, hangs(dust, 0))]
[[(0, 1)], [(0,), (1,)], ('parted', 0, (0,)), 'whole', True]
"""

PICTURES = """
>>> from selfkits.pictures import drawn, first_unlike, parts_of
>>> [drawn(dust, 0, 2, 0, -1, 9, 2), first_unlike(block, 0, side, 0, 2), len(parts_of(block, 0, 0, (0, 0)))]
[['####.####', '####.####'], (0, (1, -1)), 4]
"""

TEXTS = """
>>> from selfkits.texts import show_address, show_kit, show_point
>>> [show_address(((3,), (0, 1))), show_address(((), (2,))), show_point(((1, 2), (-3, 1))), show_kit(side)]
['3 ( 0 1 )', '( 2 )', '1/2 -3', 'table 2 0 0 2\\n0 : 0 0 0, 0 1 0']
"""

SECTIONS = [TABLES, KITS, ADDRESSES, MEETS, INSIDES, POINTS, SQUARES, COUNTS, RATES, MAKES, PIECES, HULLS, TURNS, PICTURES, TEXTS]


class ExamplesTest(unittest.TestCase):
    def check(self, text, name):
        """Later sections use names of the ones ahead, so a text holds all sections that are tried together."""
        found = doctest.DocTestParser().get_doctest(text, {}, name, name, 0)
        self.assertGreater(len(found.examples), 0)
        printed = []
        told = doctest.DocTestRunner(verbose=False).run(found, out=printed.append)
        self.assertEqual(told.failed, 0, "".join(printed))

    def test_each_section_behind_the_ones_ahead(self):
        for at in range(len(SECTIONS)):
            self.check("".join(SECTIONS[:at + 1]), "DOC.md")

    def test_readme(self):
        place = os.path.join(os.path.dirname(os.path.abspath(__file__)), os.pardir, "README.md")
        with open(place, encoding="utf-8") as file:
            self.check(file.read().replace("```", ""), "README.md")


if __name__ == "__main__":
    unittest.main()
