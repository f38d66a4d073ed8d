"""Drawn pictures, the shown parts of squares, and the first square by which two pictures are unlike."""

from selfkits.errors import InvalidNumber
from selfkits.kits import check_state
from selfkits.lots import Lots, above
from selfkits.meets import check_like
from selfkits.shapes import is_integer
from selfkits.squares import check_axes, check_squares, check_zoom, lot_of, shown_squares
from selfkits.tables import times


def drawn(kit, state, zoom, left, low, wide, high):
    """Return the list of rows of signs, the topmost row first: # where a square is shown, . where not."""
    check_squares(kit, state)
    check_zoom(zoom)
    for at, number in enumerate((left, low, wide, high)):
        if not is_integer(number) or at > 1 and number < 0:
            raise InvalidNumber(number)
    there = _shown_in(kit, state, zoom, (left, low, left + wide - 1, low + high - 1))
    rows = []
    for y in range(low + high - 1, low - 1, -1):
        rows.append("".join(["#" if (x, y) in there else "." for x in range(left, left + wide)]))
    return rows


def parts_of(kit, state, zoom, square):
    """Return the ascending tuple of the squares that are shown at the next zoom, within the table times a square."""
    lot = lot_of(kit, state, zoom, square)
    x, y = times(kit[0], square)
    return tuple([(x + p, y + q) for (p, q), _ in Lots(kit).parts(lot)])


def first_unlike(one, k, other, l, most):
    """Return the first (zoom, square) shown of just one of two pictures, None if there is none up to a zoom."""
    check_like(one, other)
    check_axes(one[0])
    check_state(one, k)
    check_state(other, l)
    check_zoom(most)
    for zoom in range(most + 1):
        mine = {square: True for square in shown_squares(one, k, zoom)}
        its = {square: True for square in shown_squares(other, l, zoom)}
        alone = [square for square in mine if square not in its] + [square for square in its if square not in mine]
        if len(alone) > 0:
            return (zoom, min(alone))
    return None


def _shown_in(kit, state, zoom, window):
    """Return the dict of the squares in a window (left, low, right, high) that are shown, with their lots."""
    windows = [window]
    for _ in range(zoom):
        windows.append(_window_above(kit[0], windows[-1]))
    lots = Lots(kit)
    left, low, right, high = windows[-1]
    there = {}
    for square in [(x, y) for x in range(left, right + 1) for y in range(low, high + 1)]:
        lot = lots.first(state, square)
        if len(lot) > 0:
            there[square] = lot
    for here in reversed(windows[:-1]):
        there = _parts_in(kit[0], lots, there, here)
    return there


def _parts_in(table, lots, there, window):
    """Return the dict of the parts of some squares, with their lots, that are in a window."""
    left, low, right, high = window
    known = {}
    found = {}
    for square, lot in there.items():
        # Far more squares than lots are looked at.
        if lot not in known:
            known[lot] = lots.parts(lot)
        x, y = times(table, square)
        for (p, q), part in known[lot]:
            if left <= x + p <= right and low <= y + q <= high:
                found[(x + p, y + q)] = part
    return found


def _window_above(table, window):
    """Return the window of the squares of which those in a window are parts."""
    left, low, right, high = window
    (x, y), _ = above(table, (left, low))
    (p, q), _ = above(table, (right, high))
    return (min(x, p), min(y, q), max(x, p), max(y, q))
