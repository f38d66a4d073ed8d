"""Kits that have squares, and what the document says of squares and counts, reckoned plainly."""

import random
from fractions import Fraction
from functools import lru_cache
from itertools import product as all_of

from samples import (
    BLOCK, DRAGON, DUST, FOUR, SIDE, SKEWED, STILL, TWO, both_reaches, taken, told_nexts, without_end,
)
from selfkits.kits import joined, met, powered
from selfkits.lots import Lots
from selfkits.makes import side_by_side
from selfkits.tables import axes, is_growing

THREE = ((3, 0), (0, 3))
CARPET = (THREE, ((((0, 0), 0), ((0, 1), 0), ((0, 2), 0), ((1, 0), 0), ((1, 2), 0), ((2, 0), 0)),))
GASKET = (TWO, ((((0, 0), 0), ((0, 1), 0), ((1, 0), 0)),))
# Copies that lie one over the other.
THICK = (TWO, ((((0, 0), 0), ((0, 1), 0), ((1, 0), 1), ((1, 1), 0)), (((0, 0), 0), ((1, 0), 0), ((1, 1), 1))))
# Walks of which no two follow one another: the counts grow by a number that is no fraction.
GOLDEN = (TWO, ((((0, 0), 0), ((1, 0), 1)), (((0, 0), 0),)))
CROSSED = (((0, 2), (1, 0)), ((((0, 0), 0), ((1, 0), 0)),))
BACKWARD = (((-2, 0), (0, 3)), ((((-1, 1), 0), ((0, 0), 1)), (((0, -1), 1), ((1, 1), 1), ((1, 2), 0))))
STEPPED = (((0, -3), (2, 0)), ((((-1, 1), 1), ((0, 0), 0), ((1, 0), 0)), (((0, 1), 0),)))
# The whole square and a part of another one.
PARTLY = (TWO, (((((0, 0), 0), ((0, 1), 0), ((1, 0), 0), ((1, 1), 0))), (((0, 0), 0), ((1, 1), 1), ((3, 0), 0))))
NO_SQUARES = [DRAGON, STILL, SKEWED, (((2, 1), (0, 2)), BLOCK[1]), (((1, 1), (-1, 1)), BLOCK[1])]
TABLES = [table for table in all_of(all_of(range(-3, 4), repeat=2), repeat=2) if is_growing(table) and axes(table) == 1]


def drawn_kits(seed, many, tables=TABLES, states=2, copies=3, far=2):
    """Kits by a row of drawn numbers, the same each time."""
    draws = random.Random(seed)
    found = []
    for _ in range(many):
        table = tables[draws.randrange(len(tables))]
        count = 1 + draws.randrange(states)
        rows = []
        for _ in range(count):
            row = set()
            for _ in range(1 + draws.randrange(copies)):
                row.add(((draws.randint(-far, far), draws.randint(-far, far)), draws.randrange(count)))
            rows.append(tuple(sorted(row)))
        found.append((table, tuple(rows)))
    return found


def made_kits():
    """Kits of kits, each with a state of it."""
    return [
        (joined(SIDE, ((0, (0, 0)), (0, (-2, 1)), (0, (1, 1)))), 1), (joined(BLOCK, ((0, (2, -3)),)), 1),
        (side_by_side(GASKET, SIDE), 1), (side_by_side(GOLDEN, GASKET), 2), (powered(GOLDEN, 2), 0),
        (powered(CROSSED, 2), 0), (powered(STEPPED, 2), 1), (powered(DRAGON, 2), 0), (met(BLOCK, 0, 0, (1, 0)), 0),
        (met(GASKET, 0, 0, (0, 0)), 0), (met(powered(DRAGON, 2), 0, 0, (0, 1)), 0),
    ]


HAND_KITS = [BLOCK, SIDE, DUST, FOUR, GASKET, THICK, GOLDEN, CROSSED, BACKWARD, STEPPED, PARTLY]
SMALL_KITS = [(kit, state) for kit in HAND_KITS for state in range(len(kit[1]))]


def told_parts(table):
    """The squares that make up the table times the square of (0, 0): its corners are those of the square."""
    corners = [taken(table, corner) for corner in all_of((0, 1), repeat=2)]
    rows = [range(min(part), max(part)) for part in zip(*corners)]
    return list(all_of(*rows))


def told_square(table):
    return (table, (tuple((step, 0) for step in told_parts(table)),))


@lru_cache(maxsize=None)
def told_touching(kit):
    """The list, for each state, of the offsets by which its picture has a point in the square of (0, 0) [7]."""
    square = told_square(kit[0])
    far = both_reaches(square, kit)
    nexts = {
        (0, l, offset): told_nexts(square, kit, (0, l, offset))
        for l in range(len(kit[1])) for offset in all_of(range(-far, far + 1), repeat=2)
    }
    lasts = without_end(nexts)
    return [sorted(offset for _, l, offset in lasts if l == at) for at in range(len(kit[1]))]


def led_on_by(kit, row):
    """What some (state, offset) become along one copy more."""
    later = set()
    for at, offset in row:
        x, y = taken(kit[0], offset)
        later |= {(led, (x + p, y + q)) for (p, q), led in kit[1][at]}
    return later


def told_ends(kit, state, zoom):
    """All (state, offset) to which walks of so many copies lead."""
    row = {(state, (0, 0))}
    for _ in range(zoom):
        row = led_on_by(kit, row)
    return row


@lru_cache(maxsize=None)
def told_lots(kit, state, zoom):
    """The dict of all squares that are shown, with their lots."""
    found = {}
    for led, (x, y) in told_ends(kit, state, zoom):
        for p, q in told_touching(kit)[led]:
            found.setdefault((x - p, y - q), set()).add((led, (p, q)))
    return {square: tuple(sorted(found[square])) for square in found}


def told_far_lots(kit, state, zoom, square, squares):
    """The lots of squares near one: of the walks, those that stay near it, so often undone, are led on."""
    (a, b), (c, d) = kit[0]
    size = a * d - b * c
    # Offsets are rounded, which puts them less than one more off.
    middles = [square]
    for _ in range(zoom):
        x, y = middles[-1]
        middles.append(((d * x - b * y) // size, (a * y - c * x) // size))
    far = both_reaches(kit, kit) + 10
    row = {(state, (0, 0))}
    for n in range(zoom):
        left, low = middles[zoom - 1 - n]
        row = {(led, (x, y)) for led, (x, y) in led_on_by(kit, row) if abs(x - left) <= far and abs(y - low) <= far}
    touching = [set(offsets) for offsets in told_touching(kit)]
    found = []
    for x, y in squares:
        lot = {(led, (p - x, q - y)) for led, (p, q) in row}
        found.append(tuple(sorted((led, offset) for led, offset in lot if offset in touching[led])))
    return found


@lru_cache(maxsize=None)
def told_ways(kit, state):
    """The dict of all kinds, each with the list of those of its parts, taken from the squares of the first zooms.

    Kinds are followed by kinds, so behind a zoom that shows no new one there are no more.
    """
    ways, zoom = {}, 0
    while True:
        here, later = told_lots(kit, state, zoom), told_lots(kit, state, zoom + 1)
        new = {lot: square for square, lot in here.items() if lot not in ways}
        if not new:
            return ways
        for lot, square in new.items():
            x, y = taken(kit[0], square)
            parts = [later.get((x + p, y + q)) for p, q in told_parts(kit[0])]
            ways[lot] = [part for part in parts if part is not None]
        zoom += 1


def told_counts(kit, state, most):
    """The counts of the zooms from 0 on: each square of a kind has parts of the same kinds."""
    ways = told_ways(kit, state)
    numbers = {}
    for lot in told_lots(kit, state, 0).values():
        numbers[lot] = numbers.get(lot, 0) + 1
    found = []
    for _ in range(most + 1):
        found.append(sum(numbers.values()))
        later = {}
        for lot, number in numbers.items():
            for part in ways[lot]:
                later[part] = later.get(part, 0) + number
        numbers = later
    return found


def told_area(kit, state):
    """The area: a square all parts of which are shown at any depth is full, of others as much as of their parts."""
    ways = told_ways(kit, state)
    (a, b), (c, d) = kit[0]
    many = abs(a * d - b * c)
    full = set(ways)
    while True:
        fewer = {lot for lot in full if len(ways[lot]) == many and all(part in full for part in ways[lot])}
        if fewer == full:
            break
        full = fewer
    # Those that come to no full one have no area.
    some = set(full)
    while True:
        more = some | {lot for lot in ways if any(part in some for part in ways[lot])}
        if more == some:
            break
        some = more
    row = sorted(some - full)
    lines = []
    for lot in row:
        line = [Fraction(many if other == lot else 0) - ways[lot].count(other) for other in row]
        lines.append(line + [Fraction(sum(part in full for part in ways[lot]))])
    areas = dict(zip(row, solved(lines)))
    areas.update({lot: Fraction(1) for lot in full})
    return sum(areas.get(lot, Fraction(0)) for lot in told_lots(kit, state, 0).values())


def solved(lines):
    """The numbers of a square of lines, each with its sum behind, that have one solution."""
    lines = [list(line) for line in lines]
    many = len(lines)
    for at in range(many):
        pivot = next(n for n in range(at, many) if lines[n][at] != 0)
        lines[at], lines[pivot] = lines[pivot], lines[at]
        lines[at] = [part / lines[at][at] for part in lines[at]]
        for n in range(many):
            if n != at and lines[n][at] != 0:
                lines[n] = [one - lines[n][at] * other for one, other in zip(lines[n], lines[at])]
    return [line[-1] for line in lines]


def few_kinds(kit, state, most):
    """Whether there are at most so many kinds, by the program's own lots."""
    lots = Lots(kit)
    row = lots.starts(state)
    seen = set(row)
    while row:
        row = sorted({part for lot in row for _, part in lots.parts(lot)} - seen)
        seen.update(row)
        if len(seen) > most:
            return False
    return True
