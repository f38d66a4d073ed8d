"""pieces.py: points [7], [8] and [11], what lies together and hangs together, and the errors of the section."""

import unittest
from collections import Counter
from functools import lru_cache
from itertools import combinations

from samples import (
    ADDRESS, BLOCK, CHAIN, DRAGON, DUST, FOUR, KITS, NO_KITS, NO_STATES, SIDE, SKEWED, STILL, TURN, TWO, Base,
    both_reaches,
    fits, is_told_address, small_kits, told_graph, told_nexts, told_point, without_end,
)
from selfkits import pieces
from selfkits.errors import InvalidKit, InvalidPaper, InvalidState
from selfkits.kits import joined, met, powered, reached
from selfkits.makes import alone, moved, side_by_side, turned, turns_of
from selfkits.meets import do_meet, meets
from selfkits.pieces import hangs, is_hanging, lots_of, together
from selfkits.squares import shown_squares
from tiles import CARPET, CROSSED, GASKET, GOLDEN, PARTLY, SMALL_KITS, drawn_kits, made_kits

NAMES = ("kit", "state")
PAPER = [((int, int, (int, int)), int)]
FORM = {
    "whole": ("whole", [(int, [(int, int, ADDRESS, ADDRESS)])]),
    "parted": ("parted", int, [int], [(int, int, PAPER)]),
}
ONE = tuple((step, 1) for step, _ in BLOCK[1][0])
ROW = (TWO, (tuple((step, 1) for step in ((0, 0), (1, 0), (2, 0), (3, 0))), ONE))
BENT = (TWO, ((((0, 0), 1), ((0, 1), 1), ((1, 2), 1)), (((0, 0), 1),)))
HOOK = (TWO, ((((0, 0), 1), ((1, -1), 1), ((2, 0), 1)), ONE))
APART = (TWO, ((((0, 0), 1), ((0, 2), 1), ((1, 0), 1), ((4, 0), 1)), ONE))
# State 0 hangs together by itself, but leads to one that does not.
LEADING = (CARPET[0], ((((0, 0), 0), ((0, 0), 1), ((0, 1), 0), ((0, 2), 0)), (((0, 0), 1), ((2, 0), 1))))


def triple_of(kit, state, a, b):
    (v, i), (w, j) = kit[1][state][a], kit[1][state][b]
    return (i, j, (w[0] - v[0], w[1] - v[1]))


@lru_cache(maxsize=None)
def told_together(kit, state):
    """[8] in its own words."""
    row = []
    for a, b in combinations(range(len(kit[1][state])), 2):
        start = triple_of(kit, state, a, b)
        if start in without_end(told_graph(kit, kit, start)):
            row.append((a, b))
    return row


def joined_lots(many, pairs):
    lots = [{place} for place in range(many)]
    for a, b in pairs:
        one, other = [next(lot for lot in lots if place in lot) for place in (a, b)]
        if one is not other:
            lots.remove(other)
            one |= other
    return sorted(tuple(sorted(lot)) for lot in lots)


def is_told_paper(kit, start, paper):
    """The paper of "apart" in its own words."""
    rows = dict(paper)
    far = both_reaches(kit, kit)
    if list(paper) != sorted(set(paper)) or len(rows) < len(paper):
        return False
    if max(map(abs, start[2])) <= far and start not in rows:
        return False
    for (k, l, offset), number in rows.items():
        if number < 0 or not (0 <= k < len(kit[1]) and 0 <= l < len(kit[1])) or max(map(abs, offset)) > far:
            return False
        if not all(rows.get(later, number) < number for later, _ in told_nexts(kit, kit, (k, l, offset))):
            return False
    return True


def is_told_tree(kit, state, tree):
    many = len(kit[1][state])
    if list(tree) != sorted(tree) or sorted(row[1] for row in tree) != list(range(1, many)):
        return False
    if not all(0 <= a < many and a != b for a, b, _, _ in tree):
        return False
    if len(joined_lots(many, [row[:2] for row in tree])) > 1:
        return False
    for a, b, first, second in tree:
        i, j, (x, y) = triple_of(kit, state, a, b)
        if not is_told_address(kit, i, first) or not is_told_address(kit, j, second):
            return False
        p, q = told_point(kit, j, second)
        if told_point(kit, i, first) != (p + x, q + y):
            return False
    return True


def right_hanging(kit, state):
    """The judge of the section in its own words."""
    states = reached(kit, state)

    def judge(told):
        if told[0] == "whole":
            return tuple(row[0] for row in told[1]) == states and all(is_told_tree(kit, *row) for row in told[1])
        _, at, lot, papers = told
        if at not in states:
            return False
        places = range(len(kit[1][at]))
        if list(lot) != sorted(set(lot)) or not set(lot) < set(places) or len(lot) == 0:
            return False
        if [row[:2] for row in papers] != [(a, b) for a in lot for b in places if b not in lot]:
            return False
        return all(is_told_paper(kit, triple_of(kit, at, a, b), paper) for a, b, paper in papers)

    return judge


def squares_hang(row):
    """Whether squares come from one to each other one by common sides or corners."""
    rest = set(row)
    ahead = [rest.pop()]
    while ahead:
        x, y = ahead.pop()
        near = {(x + p, y + q) for p in (-1, 0, 1) for q in (-1, 0, 1)} & rest
        rest -= near
        ahead.extend(near)
    return not rest


CASES = [(kit, state) for kit in KITS + small_kits()[::3] + [ROW, HOOK, APART, LEADING, BENT, GASKET, CARPET, PARTLY]
         for state in range(len(kit[1]))]
CASES += made_kits()[:8] + [(kit, 0) for kit in drawn_kits(41, 40, copies=4)]
CASES = [(kit, state) for kit, state in CASES if both_reaches(kit, kit) < 11]


class LotsTest(Base):
    def test_by_hand(self):
        for kit, state, pairs, lots in [
            (SIDE, 0, [(0, 1)], [(0, 1)]), (DUST, 0, [], [(0,), (1,)]), (DRAGON, 0, [(0, 1)], [(0, 1)]),
            (STILL, 0, [], [(0,)]), (ROW, 0, [(0, 1), (1, 2), (2, 3)], [(0, 1, 2, 3)]),
            (BLOCK, 0, list(combinations(range(4), 2)), [(0, 1, 2, 3)]),
            (FOUR, 3, [(0, 1), (0, 2), (0, 3), (1, 2), (1, 3), (2, 3)], [(0, 1, 2, 3)]),
            (HOOK, 0, [(0, 1), (1, 2)], [(0, 1, 2)]), (APART, 0, [(0, 2)], [(0, 2), (1,), (3,)]),
            (BENT, 0, [], [(0,), (1,), (2,)]), (LEADING, 1, [], [(0,), (1,)]),
        ]:
            self.assertEqual(self.both_ways(together, NAMES, (kit, state)), pairs)
            self.assertEqual(self.both_ways(lots_of, NAMES, (kit, state)), lots)

    def test_as_the_document_words_it(self):
        for kit, state in CASES:
            told = told_together(kit, state)
            self.assertEqual(together(kit, state), told)
            lots = lots_of(kit, state)
            self.assertEqual(lots, joined_lots(len(kit[1][state]), told))
            self.assertIs(type(lots), list)
            for row in lots:
                self.all_tuples(row)

    def test_by_meets(self):
        for kit, state in SMALL_KITS:
            for a, b in combinations(range(len(kit[1][state])), 2):
                i, j, offset = triple_of(kit, state, a, b)
                self.assertIs((a, b) in together(kit, state), do_meet(kit, i, kit, j, offset))

    def test_lists_are_new(self):
        for call in (together, lots_of):
            told = call(BLOCK, 0)
            kept = list(told)
            told.append(None)
            del told[0]
            self.assertEqual(call(BLOCK, 0), kept)


class HangsTest(Base):
    def test_by_hand(self):
        self.assertEqual(hangs(STILL, 0), ("whole", ((0, ()),)))
        self.assertEqual(self.both_ways(hangs, NAMES, (DUST, 0)),
            ("parted", 0, (0,), ((0, 1, (((0, 0, (2, 0)), 0),)),)))
        for kit, state, told in [
            (BLOCK, 0, "whole"), (SIDE, 0, "whole"), (DRAGON, 0, "whole"), (GASKET, 0, "whole"), (CARPET, 0, "whole"),
            (FOUR, 3, "whole"), (ROW, 0, "whole"), (HOOK, 0, "whole"), (powered(GASKET, 2), 0, "whole"),
            (powered(DUST, 2), 0, "parted"), (side_by_side(DUST, DUST), 1, "parted"),
            (moved(SIDE, 0, (4, -4)), 1, "whole"),
            (joined(SIDE, ((0, (0, 0)), (0, (2, 0)))), 1, "parted"), (CROSSED, 0, "whole"),
            (joined(SIDE, ((0, (0, 0)), (0, (0, 1)))), 1, "whole"),
        ]:
            self.assertEqual(hangs(kit, state)[0], told, (kit, state))
        # The least state that is parted, not the first that is met.
        self.assertEqual(hangs(LEADING, 0)[:3], ("parted", 1, (0,)))
        self.assertEqual(hangs(APART, 0)[:3], ("parted", 0, (0, 2)))
        self.assertEqual([row[:2] for row in hangs(APART, 0)[3]], [(0, 1), (0, 3), (2, 1), (2, 3)])

    def test_rows_that_join(self):
        self.assertEqual([row[:2] for row in hangs(ROW, 0)[1][0][1]], [(0, 1), (1, 2), (2, 3)])
        back = (TWO, ((((0, 0), 1), ((2, 0), 1), ((3, -1), 1), ((4, 0), 1)), ROW[1][1]))
        self.assertEqual(hangs(back, 0)[0], "parted")
        bent = (TWO, ((((0, 0), 1), ((0, 2), 1), ((1, 1), 1)), ROW[1][1]))
        self.assertEqual([row[:2] for row in hangs(bent, 0)[1][0][1]], [(0, 2), (2, 1)])

    def test_as_the_document_words_it(self):
        told_words = Counter()
        for kit, state in CASES:
            told = hangs(kit, state)
            self.all_tuples(told)
            self.assertTrue(fits(FORM, told))
            parted = [at for at in reached(kit, state)
                      if len(joined_lots(len(kit[1][at]), told_together(kit, at))) > 1]
            self.assertEqual(told[0], "parted" if parted else "whole")
            if parted:
                self.assertEqual(told[1], parted[0])
                self.assertEqual(told[2], lots_of(kit, parted[0])[0])
                for a, b, paper in told[3]:
                    i, j, offset = triple_of(kit, parted[0], a, b)
                    self.assertEqual(("apart", paper), meets(kit, i, kit, j, offset))
            self.assertIs(right_hanging(kit, state)(told), True)
            self.assertIs(self.both_ways(is_hanging, NAMES + ("told",), (kit, state, told)), True)
            told_words[told[0]] += 1
        self.assertGreater(min(told_words.values()), 30)

    def test_squares_hang_together_where_the_picture_does(self):
        tried = Counter()
        for kit, state in SMALL_KITS + made_kits() + [(kit, 0) for kit in drawn_kits(42, 100, copies=4, far=1)]:
            told = hangs(kit, state)[0]
            if told == "whole":
                for zoom in range(4 if len(kit[1]) < 4 else 3):
                    self.assertTrue(squares_hang(shown_squares(kit, state, zoom)))
            else:
                # Kits whose pictures fall apart show it at some zoom, if the state itself is parted.
                tried["apart"] += not squares_hang(shown_squares(kit, state, 4))
            tried[told] += 1
        self.assertGreater(min(tried.values()), 15)

    def test_what_keeps_the_answer(self):
        for kit, state in SMALL_KITS + [(DRAGON, 0), (CHAIN, 0), (SKEWED, 1)]:
            told = hangs(kit, state)[0]
            self.assertEqual(hangs(alone(kit, state), 0)[0], told)
            self.assertEqual(hangs(moved(kit, state, (3, -2)), len(kit[1]))[0], told)
            for turn in turns_of(kit):
                self.assertEqual(hangs(turned(kit, turn), state)[0], told)

    def test_any_question_behind_any_other(self):
        asked = [(call, given) for given in CASES[:40:3] for call in (together, hangs, lots_of)]
        first = [call(*values) for call, values in asked]
        self.assertEqual([call(*values) for call, values in reversed(asked)], first[::-1])


class IsHangingTest(Base):
    def judge(self, kit, state, told):
        return self.judged(lambda other: is_hanging(kit, state, other), right_hanging(kit, state), FORM, told)

    def test_rows_put_otherwise(self):
        for kit, state in [(SIDE, 0), (DRAGON, 0), (GOLDEN, 0), (STILL, 0), (FOUR, 1), (HOOK, 0), (GASKET, 0),
                           (joined(SIDE, ((0, (0, 0)), (0, (0, 1)))), 1)]:
            told = hangs(kit, state)
            if told[0] == "whole":
                counts = self.judge(kit, state, told)
                self.assertGreater(counts[False], 1)
                self.assertGreater(counts[None], 10)

    def test_partings_put_otherwise(self):
        for kit, state in [(DUST, 0), (LEADING, 0), (LEADING, 1),
                           (joined(SIDE, ((0, (0, 0)), (0, (2, 0)))), 1)]:
            told = hangs(kit, state)
            self.assertEqual(told[0], "parted")
            counts = self.judge(kit, state, told)
            self.assertGreater(counts[False], 10)

    def test_other_lots_and_states(self):
        papers = {(a, b): meets(APART, 1, APART, 1, triple_of(APART, 0, a, b)[2]) for a in range(4) for b in range(4)}
        papers = {pair: told[1] if told[0] == "apart" else () for pair, told in papers.items()}
        for lot, right in [
            ((0, 2), True), ((1,), True), ((3,), True), ((1, 3), True), ((0, 1, 2), True), ((0, 2, 3), True),
            ((0,), False), ((0, 1), False), ((2, 3), False),
        ]:
            rows = tuple((a, b, papers[a, b]) for a in lot for b in range(4) if b not in lot)
            self.assertIs(is_hanging(APART, 0, ("parted", 0, lot, rows)), right)
            self.assertIs(is_hanging(APART, 0, ("parted", 1, lot, rows)), False)
            self.assertIs(is_hanging(APART, 1, ("parted", 0, lot, rows)), False)
            self.assertIs(is_hanging(APART, 0, ("parted", 0, lot, rows[:-1])), False)
            self.assertIs(is_hanging(APART, 0, ("parted", 0, lot, rows[::-1])), False or right and len(rows) == 1)
        for lot in [(), (0, 1, 2, 3), (0, 0, 2), (2, 0), (0, 2, 4), (-1, 0, 2)]:
            rows = tuple((a, b, papers.get((a, b), ())) for a in lot for b in range(4) if b not in lot)
            self.assertIs(is_hanging(APART, 0, ("parted", 0, lot, rows)), False)
        told = hangs(DUST, 0)
        self.assertIs(is_hanging(DUST, 0, ("parted", 0, (1,), ((1, 0, meets(DUST, 0, DUST, 0, (-2, 0))[1]),))), True)
        self.assertIs(is_hanging(DUST, 0, ("parted", 0, (0,), ((0, 1, ()),))), False)
        self.assertIs(is_hanging(BLOCK, 0, told), False)

    def test_other_trees(self):
        whole = hangs(BLOCK, 0)
        first, second, third = whole[1][0][1]
        for tree, right in [
            ((first, second, third), True), ((first, second), False), ((), False), ((second, first, third), False),
            ((first, second, second), False), ((first, second, third, third), False),
            ((first, second, (1, 3, ((), (2,)), ((), (0,)))), True),
            ((first, (1, 3, ((), (2,)), ((), (0,))), second), False),
            ((first, second, (2, 3, ((), (1,)), ((), (0,)))), True),
            ((second, third, (3, 1, ((), (0,)), ((), (2,)))), True),
            ((second, (2, 1, ((), (1,)), ((), (2,))), (2, 3, ((), (1,)), ((), (0,)))), True),
            ((first, (2, 3, ((), (1,)), ((), (0,))), (3, 2, ((), (0,)), ((), (1,)))), False),
            ((first, (2, 2, ((), (1,)), ((), (1,))), third), False),
            ((first, second, (4, 3, ((), (1,)), ((), (0,)))), False),
            ((first, second, (-1, 3, ((), (1,)), ((), (0,)))), False),
            (((0, 1, ((), (3,)), ((), (2,))), second, third), True),
            (((0, 1, ((), (3,)), ((), (0,))), second, third), False),
        ]:
            told = ("whole", ((0, tree),))
            self.assertIs(is_hanging(BLOCK, 0, told), right, tree)
            self.assertIs(right_hanging(BLOCK, 0)(told), right, tree)
        for rows in [(), whole[1] * 2, ((1, whole[1][0][1]),), ((-1, ()),), whole[1] + ((1, ()),)]:
            self.assertIs(is_hanging(BLOCK, 0, ("whole", rows)), False)
        rows = hangs(HOOK, 0)[1]
        self.assertEqual([row[0] for row in rows], [0, 1])
        for other in (rows[1:], rows[:1], rows[::-1]):
            self.assertIs(is_hanging(HOOK, 0, ("whole", other)), False)
        self.assertIs(is_hanging(HOOK, 1, ("whole", rows[1:])), True)

    def test_of_another_form(self):
        good = hangs(DUST, 0)
        for bad in [
            None, 0, "whole", (), ("whole",), ("whole", None), ("whole", []), ("whole", (), ()), ["whole", ()],
            ("Whole", ()),
            ("parted",), ("parted", ()), ("parted", 0, (0,)), good + (0,), list(good), ("whole",) + good[1:],
            ("whole", (0,)), ("whole", ((0,),)), ("whole", ((0, (), ()),)), ("whole", ((True, ()),)),
            ("whole", ((0, []),)),
            ("whole", ((0, ((0, 1, ((), (0,))),)),)), ("whole", ((0, ((0, 1, ((), (0,)), ((), (0,), ())),)),)),
            ("whole", ((0, ((0, False, ((), (0,)), ((), (0,))),)),)),
            ("whole", ((0, ((0, 1, ((), [0]), ((), (0,))),)),)),
            ("parted", True, (0,), good[3]), ("parted", 0, [0], good[3]), ("parted", 0, (False,), good[3]),
            ("parted", 0, (0,), list(good[3])), ("parted", 0, (0,), ((0, 1),)), ("parted", 0, (0,), ((0, 1, None),)),
            ("parted", 0, (0,), ((0, True, ()),)), ("parted", 0, (0,), ((0, 1, (0,)),)),
            ("parted", 0, (0,), ((0, 1, (((0, 0, (2, 0)),),)),)),
            ("parted", 0, (0,), ((0, 1, (((0, 0, (2, 0)), None),)),)), ("parted", 0, (0,), ((0, 1, ("apart", ())),)),
            ("parted", None, (0,), good[3]), ("parted", 0, 0, good[3]), ("parted", 0, (0,), 0), (0, ()),
            (None,) + good[1:],
        ]:
            self.assertFalse(fits(FORM, bad))
            self.raises_both_ways(InvalidPaper, bad, is_hanging, NAMES + ("told",), (DUST, 0, bad))


class ErrorsTest(Base):
    def each(self):
        for call in (together, lots_of, hangs):
            yield call, NAMES, ()
        yield is_hanging, NAMES + ("told",), (0,)

    def test_no_kit(self):
        for call, names, more in self.each():
            for bad in NO_KITS:
                self.raises_both_ways(InvalidKit, bad, call, names, (bad, 0) + more)
            self.raises_both_ways(InvalidKit, NO_KITS[3], call, names, (NO_KITS[3], -1) + more)

    def test_no_state(self):
        for call, names, more in self.each():
            for bad in NO_STATES:
                self.raises_both_ways(InvalidState, bad, call, names, (BLOCK, bad) + more)
            self.raises_both_ways(InvalidState, 8, call, names, (FOUR, 8) + more)

    def test_arguments_are_as_they_were(self):
        kit = (TURN, ((((0, 0), 0), ((1, 0), 0)),))
        told = hangs(kit, 0)
        kept = repr(told)
        is_hanging(kit, 0, told), together(kit, 0), lots_of(kit, 0)
        self.assertEqual((kit, repr(told)), ((((1, -1), (1, 1)), ((((0, 0), 0), ((1, 0), 0)),)), kept))

    def test_many_states(self):
        kit = met(BLOCK, 0, 0, (0, 0))
        self.assertEqual(len(kit[1]), 9)
        told = hangs(kit, 0)
        self.assertEqual(told[0], "whole")
        self.assertIs(is_hanging(kit, 0, told), True)

    def test_each_is_defined_in_pieces(self):
        for name in ("together", "lots_of", "hangs", "is_hanging"):
            self.assertEqual(getattr(pieces, name).__module__, "selfkits.pieces")


if __name__ == "__main__":
    unittest.main()
