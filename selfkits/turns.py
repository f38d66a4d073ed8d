"""The turns and offsets that keep a picture."""

from selfkits.insides import is_one_picture
from selfkits.kits import check_kit, check_state, reach
from selfkits.makes import check_turn, turned, turns_of
from selfkits.tables import check_offset, inverse, product, size


def keeps(kit, state):
    """Return the ascending list of (turn, offset) so that the picture, turned and then moved, is the picture."""
    check_kit(kit)
    check_state(kit, state)
    tops, bottom = _tops(kit, state)
    found = []
    for turn in turns_of(kit):
        offset = _offset_of(turn, tops, bottom)
        if is_one_picture(kit, state, turned(kit, turn), state, offset):
            found.append((turn, offset))
    return found


def is_kept(kit, state, turn, offset):
    """Tell whether a turn of the picture of a state, then moved by the offset, is the picture."""
    check_kit(kit)
    check_state(kit, state)
    check_turn(kit, turn)
    check_offset(offset)
    tops, bottom = _tops(kit, state)
    return offset == _offset_of(turn, tops, bottom) and is_one_picture(kit, state, turned(kit, turn), state, offset)


def _offset_of(turn, tops, bottom):
    """Return the one offset by which the turned picture, so moved, can be the picture."""
    across, up = turn
    # Along (1, 0) the turned picture is as high as the picture along the turn's first row. Tops are off by less
    # than a quarter each, and heights of one picture and of it moved differ by an integer: the nearest one.
    x, y = tops[(1, 0)] - tops[across], tops[(0, 1)] - tops[up]
    return ((2 * x + bottom) // (2 * bottom), (2 * y + bottom) // (2 * bottom))


def _tops(kit, state):
    """Return (tops, bottom): the tops by the bottom are less than a quarter off the greatest heights of four ways."""
    most = 4 * reach(kit)
    undoing, scale = inverse(kit[0])
    here, bottom, n = undoing, scale, 1
    # No point is higher than the reach along steps behind the n-th one.
    while most * size(here) >= bottom:
        here, bottom, n = product(here, undoing), bottom * scale, n + 1
    ways = ((1, 0), (-1, 0), (0, 1), (0, -1))
    return ({way: _top(kit, state, way, n) for way in ways}, bottom)


def _top(kit, state, way, n):
    """Return the top of the greatest height of the sums of n steps, over the bottom's n-th power."""
    ((a, b), (c, d)), scale = inverse(kit[0])
    rows = [way]
    for _ in range(n):
        x, y = rows[-1]
        rows.append((x * a + y * c, x * b + y * d))
    heights = [0 for _ in kit[1]]
    share = 1
    for x, y in reversed(rows[1:]):
        heights = [max([(x * p + y * q) * share + heights[led] for (p, q), led in copies]) for copies in kit[1]]
        share = share * scale
    return heights[state]
