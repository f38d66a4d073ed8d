"""What squares have of pictures: which moved pictures have points in a square, and the lots that come of these."""

from selfkits.graphs import graph_from
from selfkits.kits import reach
from selfkits.tables import inverse, times

# The four sides of a square, as ways: right, up, left, down.
SIDES = ((1, 0), (0, 1), (-1, 0), (0, -1))


class Lots:
    """The lots of one kit whose table takes the axes to the axes; asked for again, what is known is not sought again.

    A placed picture is (state, offset). A lot is the ascending tuple of those that have a point in the square of
    (0, 0) and make up what is there of a picture, so often times the table.
    """

    def __init__(self, kit):
        self._kit = kit
        self._ranges = [_range_of(row) for row in _tops(kit)]
        self._square = square_of(kit[0])
        self._known = {}

    def has_point(self, placed):
        """Tell whether a placed picture has a point in the square of (0, 0)."""
        if placed not in self._known:
            # What is out of range is not kept: there is no end of it.
            if not _is_in(self._ranges[placed[0]], placed[1]):
                return False
            self._seek(placed)
        return self._known[placed]

    def offsets_of(self, state):
        """Return the ascending list of the offsets by which the picture of a state has a point in the square."""
        left, low, right, high = self._ranges[state]
        row = [(x, y) for x in range(left, right + 1) for y in range(low, high + 1)]
        return [offset for offset in row if self.has_point((state, offset))]

    def starts(self, state):
        """Return the list of the lots at the zoom 0, each of one square."""
        return [((state, offset),) for offset in self.offsets_of(state)]

    def first(self, state, square):
        """Return the lot of a square at the zoom 0."""
        placed = (state, (-square[0], -square[1]))
        return (placed,) if self.has_point(placed) else ()

    def part(self, lot, offset):
        """Return the lot of one of the squares that make up the table times a square of a lot."""
        x, y = offset
        row = [(state, (left - x, low - y)) for state, (left, low) in self._spread(lot)]
        return tuple(sorted([placed for placed in row if self.has_point(placed)]))

    def parts(self, lot):
        """Return the ascending list of (offset, lot), no lot empty, of these squares."""
        found = {}
        for state, (x, y) in self._spread(lot):
            for offset in self._offsets_with(state, x, y):
                placed = (state, (x - offset[0], y - offset[1]))
                if self.has_point(placed):
                    found.setdefault(offset, []).append(placed)
        return [(offset, tuple(sorted(found[offset]))) for offset in sorted(found)]

    def graph(self, state):
        """Return the graph of all lots, none empty, from those at the zoom 0 on; the ways are those of `parts`."""
        return graph_from(self.starts(state), lambda lot: [(there, offset) for offset, there in self.parts(lot)])

    def _spread(self, lot):
        """Return the list of the placed pictures that make up the table times those of a lot, each once."""
        (a, b), (c, d) = self._kit[0]
        found = {}
        for state, (x, y) in lot:
            left, low = a * x + b * y, c * x + d * y
            for (p, q), led in self._kit[1][state]:
                found[(led, (left + p, low + q))] = True
        return list(found)

    def _offsets_with(self, state, x, y):
        """Return the list of the squares of the table times a square that may have a point of a placed picture."""
        left, low, right, high = self._ranges[state]
        first, under, last, over = self._square
        return [
            (p, q)
            for p in range(max(first, x - right), min(last, x - left) + 1)
            for q in range(max(under, y - high), min(over, y - low) + 1)
        ]

    def _seek(self, start):
        """Find whether a placed picture in range has a point in the square: so it is if a row of next ones has no end.

        If one of them has, so have all that led to it.
        """
        row, rest = [start], [self._nexts(start)]
        seen = {start: True}
        while len(row) > 0:
            if len(rest[-1]) == 0:
                rest.pop()
                self._known[row.pop()] = False
                continue
            later = rest[-1].pop()
            # What was seen and is not known yet stands in the row.
            if self._known.get(later, later in seen):
                for placed in row:
                    self._known[placed] = True
                return
            if later not in self._known:
                seen[later] = True
                row.append(later)
                rest.append(self._nexts(later))

    def _nexts(self, placed):
        """Return the list of the placed pictures in range to which one leads, from the squares of the table's."""
        found = {}
        for state, (x, y) in self._spread((placed,)):
            for p, q in self._offsets_with(state, x, y):
                found[(state, (x - p, y - q))] = True
        return list(found)


def square_of(table):
    """Return (left, low, right, high), the least and greatest offsets of the squares that make up the table's."""
    x, y = times(table, (1, 1))
    return (min(0, x), min(0, y), max(0, x) - 1, max(0, y) - 1)


def above(table, square):
    """Return (square, offset): the square of which the table's has a square as a part, and this part's offset."""
    ((a, b), (c, d)), bottom = inverse(table)
    # The middle of a square, undone, is within the other one, never on its sides.
    x, y = 2 * square[0] + 1, 2 * square[1] + 1
    there = ((a * x + b * y) // (2 * bottom), (c * x + d * y) // (2 * bottom))
    left, low = times(table, there)
    return (there, (square[0] - left, square[1] - low))


def _is_in(span, offset):
    """Tell whether an offset is in a range."""
    left, low, right, high = span
    return left <= offset[0] <= right and low <= offset[1] <= high


def _range_of(row):
    """Return (left, low, right, high): moved by other offsets a picture with these tops does not come to the square."""
    right, up, left, down = row
    return (-right, -up, left + 1, down + 1)


def _tops(kit):
    """Return the list of the tops of the states, a list for the four sides: heights rounded down, or more."""
    most = reach(kit)
    tops = [[most] * 4 for _ in kit[1]]
    steps = [_step_of(kit[0], side) for side in SIDES]
    while True:
        later = [_lowered(tops, tops[state], steps, copies) for state, copies in enumerate(kit[1])]
        if later == tops:
            return tops
        tops = later


def _step_of(table, side):
    """Return (place of a side, number): one step of a side is that side by the number."""
    ((a, b), (c, d)), bottom = inverse(table)
    p, q = side
    x, y = p * a + q * c, p * b + q * d
    part = abs(x) + abs(y)
    return (SIDES.index((x // part, y // part)), bottom // part)


def _lowered(tops, row, steps, copies):
    """Return the row of a state's tops, not above what it was, by the tops of the states of its copies."""
    found = []
    for most, (side, scale) in zip(row, steps):
        p, q = SIDES[side]
        found.append(min(most, max([(p * x + q * y + tops[led][side]) // scale for (x, y), led in copies])))
    return found
