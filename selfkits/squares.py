"""Which squares show a picture at a zoom: those in which it, so often times the table, has a point."""

from selfkits.errors import InvalidZoom, NoSquares
from selfkits.kits import check_kit, check_state, led_on
from selfkits.lots import Lots, above, square_of
from selfkits.shapes import is_integer
from selfkits.tables import axes, check_offset, is_growing


def square_kit(table):
    """Return the kit of one state whose picture is the square of (0, 0)."""
    check_axes(table)
    left, low, right, high = square_of(table)
    copies = [((x, y), 0) for x in range(left, right + 1) for y in range(low, high + 1)]
    return (table, (tuple(copies),))


def shown(kit, state, zoom, square):
    """Tell whether the picture, so often times the table, has a point in the closed square of an offset."""
    _check_square(kit, state, zoom, square)
    return len(_lot_of(kit, state, zoom, square)) > 0


def lot_of(kit, state, zoom, square):
    """Return the ascending tuple of the (state, offset) that make up what a square has of it."""
    _check_square(kit, state, zoom, square)
    return _lot_of(kit, state, zoom, square)


def shown_squares(kit, state, zoom):
    """Return the ascending list of all squares that are shown."""
    check_squares(kit, state)
    check_zoom(zoom)
    pieces = (((0, 0), state),)
    for _ in range(zoom):
        pieces = led_on(kit, pieces)
    lots = Lots(kit)
    offsets = {here: lots.offsets_of(here) for here in sorted({led for _, led in pieces})}
    return sorted({(x - p, y - q) for (x, y), led in pieces for p, q in offsets[led]})


def kinds(kit, state):
    """Return the ascending list of all lots, not empty, that squares have at some zoom."""
    check_squares(kit, state)
    return sorted(Lots(kit).graph(state))


def check_axes(table):
    """Raise NoSquares for what does not grow, or does not take the axes to the axes."""
    if not is_growing(table) or axes(table) != 1:
        raise NoSquares(table)


def check_squares(kit, state):
    """Raise what is due for a kit that has no squares, and what is no state of it."""
    check_kit(kit)
    check_axes(kit[0])
    check_state(kit, state)


def check_zoom(zoom):
    """Raise InvalidZoom for what is no zoom."""
    if not is_integer(zoom) or zoom < 0:
        raise InvalidZoom(zoom)


def _check_square(kit, state, zoom, square):
    """Raise what is due for a kit, a state, a zoom and a square."""
    check_squares(kit, state)
    check_zoom(zoom)
    check_offset(square)


def _lot_of(kit, state, zoom, square):
    """Return the lot of a square."""
    parts = []
    here = square
    for _ in range(zoom):
        here, part = above(kit[0], here)
        parts.append(part)
    lots = Lots(kit)
    lot = lots.first(state, here)
    for part in reversed(parts):
        lot = lots.part(lot, part)
    return lot
