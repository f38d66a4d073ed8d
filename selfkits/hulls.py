"""The greatest heights of pictures along ways that return: numbers, the addresses that reach them, boxes."""

from selfkits.addresses import is_address, point_of
from selfkits.errors import InvalidPaper, InvalidWay, NoReturn
from selfkits.graphs import looped
from selfkits.kits import check_kit, check_state, reached
from selfkits.ratios import by, is_less, plus
from selfkits.shapes import is_number, is_offset, is_two_rows, lowest
from selfkits.tables import check_growing, inverse


def returns(table, way):
    """Return (m, c): the least m, up to 12, so that m steps of a way are c times itself; None if there is none."""
    check_growing(table)
    _check_way(way)
    course = _course(table, way)
    return None if course is None else (len(course[0]), course[1])


def greatest(kit, state, way):
    """Return (number, address, heights): the greatest height, where it is, and those of all states led to."""
    _check(kit, state, way)
    ways = _ways_from(kit, state, way)
    heights, choices = _best(ways)
    chosen = {node: [(ways[node][choices[node]][2], choices[node])] for node in ways}
    many = len(ways) // len(reached(kit, state))
    rows = [tuple([heights[(at, step)] for step in range(many)]) for at in reached(kit, state)]
    return (heights[(state, 0)], looped(chosen, (state, 0)), tuple(rows))


def is_greatest(kit, state, way, told):
    """Tell whether what is told, in the form of what `greatest` returns, is right."""
    _check(kit, state, way)
    if not _is_form(told):
        raise InvalidPaper(told)
    number, address, rows = told
    ways = _ways_from(kit, state, way)
    if not _are_heights(ways, reached(kit, state), rows) or not is_address(kit, state, address):
        return False
    return number == rows[reached(kit, state).index(state)][0] == _height_of(point_of(kit, state, address), way)


def box(kit, state):
    """Return (least x, least y, greatest x, greatest y) of the points of a picture."""
    check_kit(kit)
    check_state(kit, state)
    for way in ((1, 0), (0, 1)):
        if _course(kit[0], way) is None:
            raise NoReturn(way)
    left, low, right, high = [_top(kit, state, way) for way in ((-1, 0), (0, -1), (1, 0), (0, 1))]
    return ((-left[0], left[1]), (-low[0], low[1]), right, high)


def width(kit, state, way):
    """Return the greatest less the least height of a picture."""
    _check(kit, state, way)
    return plus(_top(kit, state, way), _top(kit, state, (-way[0], -way[1])))


def _check(kit, state, way):
    """Raise what is due for a kit, a state, and a way that does not return."""
    check_kit(kit)
    check_state(kit, state)
    _check_way(way)
    if _course(kit[0], way) is None:
        raise NoReturn(way)


def _check_way(way):
    """Raise InvalidWay for what is no way."""
    if not is_offset(way) or way == (0, 0):
        raise InvalidWay(way)


def _course(table, way):
    """Return (steps, c): 1 to m steps of a way, each as (row, bottom), and the number c; None if it does not return."""
    ((a, b), (c, d)), scale = inverse(table)
    p, q = way
    x, y = way
    bottom = 1
    steps = []
    for _ in range(12):
        x, y = x * a + y * c, x * b + y * d
        bottom = bottom * scale
        steps.append(((x, y), bottom))
        if x * q == y * p and x * p + y * q > 0:
            return (steps, lowest(x * p + y * q, bottom * (p * p + q * q)))
    return None


def _ways_from(kit, state, way):
    """Return the dict of all nodes (state, steps of the way), each with a list of its ways on, one for each copy.

    A way on is (height of the copy's step, number by which the next node's height counts, next node). Behind the last
    of the m steps the way itself comes again, by the number c.
    """
    steps, share = _course(kit[0], way)
    ways = {}
    for at in reached(kit, state):
        for n, ((x, y), bottom) in enumerate(steps):
            part, later = ((1, 1), n + 1) if n + 1 < len(steps) else (share, 0)
            ways[(at, n)] = [(lowest(x * p + y * q, bottom), part, (led, later)) for (p, q), led in kit[1][at]]
    return ways


def _best(ways):
    """Return (heights, choices), dicts of the nodes: the greatest heights, and the places of copies with them."""
    choices = {node: 0 for node in ways}
    while True:
        heights = _heights_by({node: ways[node][choices[node]] for node in ways})
        better = {}
        for node in ways:
            place, height = _highest(ways[node], heights)
            if is_less(heights[node], height):
                better[node] = place
        # Heights only grow from choices to choices, so none of them comes again.
        if len(better) == 0:
            return (heights, choices)
        choices = {node: better.get(node, choices[node]) for node in choices}


def _heights_by(chosen):
    """Return the dict of the heights of nodes, of each of which one way is chosen."""
    heights = {}
    for node in chosen:
        places = {}
        here = node
        while here not in heights and here not in places:
            places[here] = len(places)
            here = chosen[here][2]
        row = list(places)
        if here not in heights:
            heights[here] = _height_around([chosen[at] for at in row[places[here]:]])
        for back in reversed(row):
            if back not in heights:
                heights[back] = _height_by(chosen[back], heights)
    return heights


def _height_around(ring):
    """Return the height of a node from which ways lead back to it."""
    total, share = (0, 1), (1, 1)
    for gain, part, _ in ring:
        total = plus(total, by(share, gain))
        share = by(share, part)
    # The height is the total and the share of itself.
    top, bottom = share
    return by(total, lowest(bottom, bottom - top))


def _height_by(way, heights):
    """Return the height that one way on gives its node."""
    gain, part, later = way
    return plus(gain, by(part, heights[later]))


def _highest(ways, heights):
    """Return (place, height) of the first of the ways on that give a node the greatest height."""
    best, most = 0, _height_by(ways[0], heights)
    for place in range(1, len(ways)):
        height = _height_by(ways[place], heights)
        if is_less(most, height):
            best, most = place, height
    return (best, most)


def _top(kit, state, way):
    """Return the greatest height along a way that returns."""
    heights, _ = _best(_ways_from(kit, state, way))
    return heights[(state, 0)]


def _height_of(point, way):
    """Return the height of a point along a way."""
    return plus(by((way[0], 1), point[0]), by((way[1], 1), point[1]))


def _is_form(told):
    """Tell whether something has the form of (number, address, heights)."""
    if not isinstance(told, tuple) or len(told) != 3 or not is_offset(told[0]) or not is_two_rows(told[1]):
        return False
    return isinstance(told[2], tuple) and all([_is_row_of_numbers(row) for row in told[2]])


def _is_row_of_numbers(told):
    """Tell whether something has the form of a tuple of numbers."""
    return isinstance(told, tuple) and all([is_offset(part) for part in told])


def _are_heights(ways, states, rows):
    """Tell whether rows are the greatest heights of all nodes: just these are right at each node."""
    many = len(ways) // len(states)
    if len(rows) != len(states) or not all([len(row) == many for row in rows]):
        return False
    heights = {(at, n): number for at, row in zip(states, rows) for n, number in enumerate(row)}
    if not all([is_number(heights[node]) for node in heights]):
        return False
    return all([_highest(ways[node], heights)[1] == heights[node] for node in heights])
