"""Kits that several tests share, what is no kit, what the document says in its own words, and the base of tests."""

import unittest
from fractions import Fraction
from functools import lru_cache
from itertools import product as all_of
from math import ceil

from selfkits.errors import InvalidPaper
from selfkits.tables import is_growing

WORDS = ["meet", "apart", "inside", "outside", "in", "out"]
ADDRESS = ([int], [int])

TWO = ((2, 0), (0, 2))
TURN = ((1, -1), (1, 1))
BLOCK = (TWO, ((((0, 0), 0), ((0, 1), 0), ((1, 0), 0), ((1, 1), 0)),))
SIDE = (TWO, ((((0, 0), 0), ((0, 1), 0)),))
DUST = (((3, 0), (0, 3)), ((((0, 0), 0), ((2, 0), 0)),))
DRAGON = (TURN, ((((0, 0), 0), ((1, 0), 0)),))
STILL = (TURN, ((((0, 0), 0),),))
# State 0 is the block, state 1 its left side, state 2 its corner (0, 0), state 3 the block and one beside it.
FOUR = (TWO, (
    (((0, 0), 0), ((0, 1), 0), ((1, 0), 0), ((1, 1), 0)),
    (((0, 0), 1), ((0, 1), 1)),
    (((0, 0), 2),),
    (((0, 0), 3), ((0, 1), 3), ((2, 0), 3), ((2, 1), 3)),
))
# States lead on in a row: 0 to 1, 1 to 2 and 3, 3 to itself, 2 to 1.
CHAIN = (((0, 2), (-1, 0)), (
    (((-1, 2), 1),),
    (((0, 0), 2), ((1, -3), 3)),
    (((0, 0), 1),),
    (((-2, 0), 3), ((2, 1), 3)),
))
SKEWED = (((2, 1), (-2, 0)), ((((0, 0), 1), ((1, 0), 0)), (((-1, 1), 0), ((0, 0), 1), ((2, -1), 0))))
KITS = [BLOCK, SIDE, DUST, DRAGON, STILL, FOUR, CHAIN, SKEWED]

ONE_COPY = (((0, 0), 0),)
ONE_PART = ((((-1, 2), 0), ((1, 1), 0)),)
NO_KITS = [
    # no pair of a table and states
    (), (TWO,), (TWO, (ONE_COPY,), 0), TWO, 5, None, "ab", [TWO, (ONE_COPY,)], (TWO, [ONE_COPY]), (TWO, 0), (TWO, None),
    # no table, or none that grows
    ((), (ONE_COPY,)), (((2, 0), (0, True)), (ONE_COPY,)), (((2, 0), (0, 2), (0, 0)), (ONE_COPY,)),
    (((2, 0), (0, 1)), (ONE_COPY,)), (((1, 0), (0, 1)), (ONE_COPY,)), (((0, 2), (1, 1)), (ONE_COPY,)),
    (((0, 0), (0, 0)), (ONE_COPY,)), (((3, 0), (0, 1)), (ONE_COPY,)),
    # no states, a state without copies, a state that is none
    (TWO, ()), (TWO, ((),)), (TWO, (ONE_COPY, ())), (TWO, ((), ONE_COPY)), (TWO, (0,)), (TWO, ([((0, 0), 0)],)),
    (TWO, ONE_COPY),
    # copies in another sequence, or twice
    (TWO, ((((1, 0), 0), ((0, 0), 0)),)), (TWO, ((((0, 1), 0), ((0, 0), 0)),)),
    (TWO, ((((0, 0), 1), ((0, 0), 0)), ONE_COPY)), (TWO, ((((0, 0), 0), ((-1, 9), 0)),)),
    (TWO, ((((0, 0), 0), ((0, 0), 0)),)), (TWO, (ONE_COPY, (((0, 0), 0), ((0, 1), 0), ((0, 1), 0)))),
    # copies that are none
    (TWO, ((0,),)), (TWO, (((0, 0),),)), (TWO, ((((0, 0),),),)), (TWO, ((((0, 0), 0, 0),),)), (TWO, (([(0, 0), 0],),)),
    # steps that are none
    (TWO, ((((0,), 0),),)), (TWO, ((((0, 0, 0), 0),),)), (TWO, (((0, 0),),)), (TWO, ((((), 0),),)),
    (TWO, ((((0, True), 0),),)), (TWO, ((((False, 0), 0),),)), (TWO, ((((0, None), 0),),)), (TWO, ((([0, 0], 0),),)),
    (TWO, ((((0, (0, 1)), 0),),)),
    # states of copies that are none
    (TWO, ((((0, 0), -1),),)), (TWO, ((((0, 0), 1),),)), (TWO, ((((0, 0), 2),), ONE_COPY)),
    (TWO, ((((0, 0), True),), ONE_COPY)), (TWO, ((((0, 0), False),),)), (TWO, ((((0, 0), (0, 0)),),)),
    (TWO, ((((0, 0), None),),)), (TWO, (ONE_COPY, (((0, 0), 0), ((0, 1), 2)))),
]
# Of kits of one state.
NO_STATES = [1, -1, 10 ** 30, True, False, None, (0,), "0"]
NO_OFFSETS = [(), (1,), (1, 2, 3), (True, 0), (0, False), ((1, 0), 0), (0, None), None, 3, [0, 0]]


@lru_cache(maxsize=None)
def told_reach(kit):
    """[6] in its own words, in fractions."""
    (a, b), (c, d) = kit[0]
    size = a * d - b * c
    inverse = [[Fraction(d, size), Fraction(-b, size)], [Fraction(-c, size), Fraction(a, size)]]
    power_of, sizes = inverse, []
    while True:
        sizes.append(max(abs(row[0]) + abs(row[1]) for row in power_of))
        if sizes[-1] < 1:
            break
        power_of = [[sum(row[m] * inverse[m][n] for m in (0, 1)) for n in (0, 1)] for row in power_of]
    greatest = max(abs(x) for copies in kit[1] for step, _ in copies for x in step)
    return ceil(sum(sizes) * greatest / (1 - sizes[-1])), len(sizes)


def told_walks(kit, state, n):
    """Pairs (places, states) of all walks of n copies: the states from the first one on."""
    walks = [((), (state,))]
    for _ in range(n):
        walks = [
            (places + (at,), states + (led,))
            for places, states in walks for at, (_, led) in enumerate(kit[1][states[-1]])
        ]
    return walks


def has_point(kit, state, point):
    """Whether a point with fractions is in a picture: some row of points within the reach has no end."""
    (a, b), (c, d) = kit[0]
    bound = told_reach(kit)[0]
    nexts, row = {}, [(state, point)]
    while row:
        here = row.pop()
        k, (x, y) = here
        if here not in nexts and abs(x) <= bound and abs(y) <= bound:
            nexts[here] = [(led, (a * x + b * y - p, c * x + d * y - q)) for (p, q), led in kit[1][k]]
            row.extend(nexts[here])
    lasts = set(nexts)
    while True:
        fewer = {here for here in lasts if any(later in lasts for later in nexts[here])}
        if fewer == lasts:
            return (state, point) in lasts
        lasts = fewer


def grid(least, greatest, bottom):
    row = [Fraction(top, bottom) for top in range(least * bottom, greatest * bottom + 1)]
    return [(x, y) for x in row for y in row]


def small_kits():
    """A few kits of each of many tables, made by a rule so that they are the same each time."""
    seed = 1
    found = []
    for table in all_of(all_of((-2, -1, 0, 1, 2), repeat=2), repeat=2):
        if is_growing(table):
            rows = []
            for _ in range(1 + seed % 2):
                copies = set()
                for _ in range(2 + seed % 3):
                    seed = (seed * 1103515245 + 12345) % 2 ** 31
                    copies.add(((seed // 64 % 4 - 1, seed // 4096 % 4 - 2), seed // 2 ** 20 % 2))
                rows.append(copies)
            many = len(rows)
            found.append((table, tuple(tuple(sorted({(step, at % many) for step, at in row})) for row in rows)))
    return found


def fits(shape, told):
    """Whether something has a shape: int, a word, a list of the shape of each part, a tuple, a function or a choice."""
    if shape is int:
        return type(told) is int
    if isinstance(shape, str):
        return type(told) is str and told == shape
    if isinstance(shape, dict):
        return any(fits(part, told) for part in shape.values())
    if callable(shape):
        return shape(told)
    if type(told) is not tuple:
        return False
    if isinstance(shape, list):
        return all(fits(shape[0], part) for part in told)
    return len(told) == len(shape) and all(fits(*pair) for pair in zip(shape, told))


def otherwise(told):
    """All that comes of what is told by one thing put otherwise."""
    if type(told) is int:
        yield from (told + 1, told - 1, told + 1000, -told, True, False, None, (), (told,), str(told))
    elif type(told) is str:
        yield from sorted({*WORDS, told + " ", told.upper(), ""} - {told})
        yield from (None, 0, (told,))
    else:
        yield from (list(told), None, 0, told[::-1], told + (0,), told + ((),), (told,))
        for at, part in enumerate(told):
            yield told[:at] + told[at + 1:]
            yield told[:at] + (part,) + told[at:]
            yield told[:at] + told[at + 1:at + 2] + (part,) + told[at + 2:]
            yield part
            for other in otherwise(part):
                yield told[:at] + (other,) + told[at + 1:]


def fraction(number):
    return Fraction(*number)


def point_from(point):
    """A point as two numbers, of one in fractions."""
    return tuple((told.numerator, told.denominator) for told in point)


def taken(table, point):
    """The point to which a table takes a point in fractions."""
    (a, b), (c, d) = table
    x, y = point
    return (a * x + b * y, c * x + d * y)


def leads(kit, state, places):
    """The states of a row of places, None if it is no walk."""
    states = [state]
    for place in places:
        if not 0 <= place < len(kit[1][states[-1]]):
            return None
        states.append(kit[1][states[-1]][place][1])
    return states


def is_told_address(kit, state, address):
    """[5] in its own words."""
    ahead, ring = address
    states = leads(kit, state, ahead + ring)
    return states is not None and len(ring) > 0 and states[len(ahead)] == states[-1]


def told_point(kit, state, address):
    """[5] in its own words: as the ring's point comes again behind it, all of the sum is the first ring's by 1 less."""
    table, (ahead, ring) = kit[0], address
    steps, at = [], state
    for place in ahead + ring:
        step, at = kit[1][at][place]
        steps.append(step)
    (a, b), (c, d) = table
    size = a * d - b * c
    inverse = ((Fraction(d, size), Fraction(-b, size)), (Fraction(-c, size), Fraction(a, size)))
    power = ((Fraction(1), Fraction(0)), (Fraction(0), Fraction(1)))
    sums, powers = [(Fraction(0), Fraction(0))], [power]
    for step in steps:
        power = tuple(tuple(sum(row[m] * inverse[m][n] for m in (0, 1)) for n in (0, 1)) for row in power)
        x, y = taken(power, step)
        sums.append((sums[-1][0] + x, sums[-1][1] + y))
        powers.append(power)
    # p is the ahead's sum and q; q is what the ring adds and (power of ring) q.
    left, low = sums[len(ahead)]
    x, y = sums[-1][0] - left, sums[-1][1] - low
    (a, b), (c, d) = powers[len(ring)]
    a, b, c, d = 1 - a, -b, -c, 1 - d
    size = a * d - b * c
    return (left + (d * x - b * y) / size, low + (a * y - c * x) / size)


def both_reaches(one, other):
    return told_reach(one)[0] + told_reach(other)[0]


def told_nexts(one, other, triple):
    """[7] in its own words: the next ones of a triple, each with its copies' places."""
    k, l, offset = triple
    bound = both_reaches(one, other)
    x, y = taken(one[0], offset)
    found = []
    for a, (v, i) in enumerate(one[1][k]):
        for b, (w, j) in enumerate(other[1][l]):
            u = (x + w[0] - v[0], y + w[1] - v[1])
            if max(map(abs, u)) <= bound:
                found.append(((i, j, u), (a, b)))
    return found


def told_graph(one, other, start):
    """All triples to which next ones lead, with their next ones; {} if start is none."""
    nexts, row = {}, [start] if max(map(abs, start[2])) <= both_reaches(one, other) else []
    while row:
        here = row.pop()
        if here not in nexts:
            nexts[here] = told_nexts(one, other, here)
            row.extend(later for later, _ in nexts[here])
    return nexts


def without_end(nexts):
    """The nodes with a row without end of a dict of nodes and their (next node, mark)."""
    lasts = set(nexts)
    while True:
        fewer = {here for here in lasts if any(later in lasts for later, _ in nexts[here])}
        if fewer == lasts:
            return lasts
        lasts = fewer


class Base(unittest.TestCase):
    def raises(self, error, value, call, *rest, **more):
        with self.assertRaises(error) as caught:
            call(*rest, **more)
        self.assertIs(type(caught.exception), error)
        self.assertIs(type(caught.exception.value), type(value))
        self.assertEqual(caught.exception.value, value)

    def both_ways(self, call, names, values):
        """The answer of a call, which has to be the same by position and by name."""
        told = call(*values)
        self.assertEqual(call(**dict(reversed(list(zip(names, values))))), told)
        return told

    def raises_both_ways(self, error, value, call, names, values):
        self.raises(error, value, call, *values)
        self.raises(error, value, call, **dict(zip(names, values)))

    def all_tuples(self, told):
        """Tuples all the way down, of integers that are no bools, and words."""
        if type(told) not in (int, str):
            self.assertIs(type(told), tuple)
            for part in told:
                self.all_tuples(part)

    def judged(self, call, right, shape, told):
        """What is told and all that comes of it by one thing put otherwise is judged as the document says."""
        self.assertIs(call(told), True)
        self.assertIs(right(told), True)
        counts = {True: 0, False: 0, None: 0}
        for other in otherwise(told):
            verdict = right(other) if fits(shape, other) else None
            counts[verdict] += 1
            if verdict is None:
                self.raises(InvalidPaper, other, call, other)
            else:
                self.assertIs(call(other), verdict, other)
        return counts
