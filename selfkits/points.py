"""Which points with fractions are in a picture, and all their addresses."""

from math import lcm

from selfkits.addresses import is_address, point_of
from selfkits.errors import InvalidPaper, InvalidPoint
from selfkits.graphs import graph_from, is_numbering, lasting, looped, numbered, turned_about
from selfkits.kits import check_kit, check_state, reach
from selfkits.shapes import is_integer, is_pair, is_place, is_point, is_two_rows, lowest


def has(kit, state, point):
    """Return ("in", address), or ("out", paper) that shows that the point has none."""
    _check(kit, state, point)
    bottom = _bottom_of(point)
    start = _over(state, point, bottom)
    graph = _graph_of(kit, start, bottom)
    lasts = lasting(graph)
    if start in lasts:
        return ("in", looped(lasts, start))
    numbers = numbered(graph)
    return ("out", tuple(sorted([(_lowered(node, bottom), numbers[node]) for node in numbers])))


def is_had(kit, state, point, told):
    """Tell whether what is told, in the form of what `has` returns, is right."""
    _check(kit, state, point)
    if not is_pair(told) or not _is_form(told):
        raise InvalidPaper(told)
    if told[0] == "out":
        most = reach(kit)
        starts = [(state, point)] if _is_within(point, most) else []
        return is_numbering(told[1], starts, lambda placed: _nexts_of(kit, placed, most))
    return is_address(kit, state, told[1]) and point_of(kit, state, told[1]) == point


def is_in(kit, state, point):
    """Tell whether a point is in the picture of a state."""
    _check(kit, state, point)
    bottom = _bottom_of(point)
    start = _over(state, point, bottom)
    return start in lasting(_graph_of(kit, start, bottom))


def addresses(kit, state, point):
    """Return the ascending list of all plain addresses of a point, None if they are endlessly many."""
    _check(kit, state, point)
    bottom = _bottom_of(point)
    start = _over(state, point, bottom)
    lasts = lasting(_graph_of(kit, start, bottom))
    if start not in lasts:
        return []
    again = {node: True for node in lasting(turned_about(lasts))}
    # These nodes come behind rings. A ring that can be left can be gone through any number of times ahead of that.
    if any([len(lasts[node]) > 1 for node in again]):
        return None
    found = []
    rows = [((), start)]
    while len(rows) > 0:
        found.extend([(ahead, looped(lasts, node)[1]) for ahead, node in rows if node in again])
        rows = [(ahead + (place,), later) for ahead, node in rows if node not in again for later, place in lasts[node]]
    return sorted(found)


def _check(kit, state, point):
    """Raise what is due for a kit, a state and a point."""
    check_kit(kit)
    check_state(kit, state)
    if not is_point(point):
        raise InvalidPoint(point)


def _bottom_of(point):
    """Return the least number that both numbers of a point have as a bottom."""
    return lcm(point[0][1], point[1][1])


def _over(state, point, bottom):
    """Return the node (state, x, y) of a state and a point, x and y being the tops over a bottom."""
    (x, x_bottom), (y, y_bottom) = point
    return (state, x * (bottom // x_bottom), y * (bottom // y_bottom))


def _lowered(node, bottom):
    """Return the (state, point) of a node."""
    state, x, y = node
    return (state, (lowest(x, bottom), lowest(y, bottom)))


def _graph_of(kit, start, bottom):
    """Return the graph of a node and all to which copies lead within the reach; it is empty if start is beyond."""
    most = reach(kit) * bottom
    starts = [start] if abs(start[1]) <= most and abs(start[2]) <= most else []
    return graph_from(starts, lambda node: _next_ones(kit, node, bottom, most))


def _next_ones(kit, node, bottom, most):
    """Return the list of (next node, place of the copy) of a node, the places ascending."""
    state, x, y = node
    (a, b), (c, d) = kit[0]
    left, low = a * x + b * y, c * x + d * y
    found = []
    for place, ((p, q), led) in enumerate(kit[1][state]):
        if abs(left - p * bottom) <= most and abs(low - q * bottom) <= most:
            found.append(((led, left - p * bottom, low - q * bottom), place))
    return found


def _nexts_of(kit, placed, most):
    """Return the list of the next ones of a (state, point), None if it is none of the kit within the reach."""
    state, point = placed
    if not is_place(state, len(kit[1])) or not _is_within(point, most):
        return None
    bottom = _bottom_of(point)
    nexts = _next_ones(kit, _over(state, point, bottom), bottom, most * bottom)
    return [_lowered(node, bottom) for node, _ in nexts]


def _is_within(point, most):
    """Tell whether a point has no coordinate of a greater absolute value."""
    return all([abs(top) <= most * bottom for top, bottom in point])


def _is_form(told):
    """Tell whether a pair has the form of ("in", address) or of ("out", paper)."""
    if told[0] == "in":
        return is_two_rows(told[1])
    if told[0] != "out" or not isinstance(told[1], tuple):
        return False
    return all([is_pair(row) and _is_placed(row[0]) and is_integer(row[1]) for row in told[1]])


def _is_placed(told):
    """Tell whether something has the form of a (state, point)."""
    return is_pair(told) and is_integer(told[0]) and is_point(told[1])
