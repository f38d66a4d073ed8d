"""Kits (table, states): what they are, how far they reach, and the kits that are made of them."""

from selfkits.errors import InvalidKit, InvalidPair, InvalidPower, InvalidState, NoMeeting
from selfkits.shapes import is_integer, is_offset, is_pair, is_place
from selfkits.tables import check_offset, determinant, is_growing, power, product, times


def is_kit(told):
    """Tell whether a tuple of tuples and integers is a kit."""
    if not is_pair(told) or not is_growing(told[0]):
        return False
    states = told[1]
    if not isinstance(states, tuple) or len(states) == 0:
        return False
    return all([_is_state(copies, len(states)) for copies in states])


def reach(kit):
    """Return the reach: no point of a picture has a coordinate of a greater absolute value."""
    check_kit(kit)
    return _bound(kit[0], _farthest(_steps(kit)))


def reached(kit, state):
    """Return the ascending tuple of the states to which walks from a state lead, itself too."""
    check_kit(kit)
    check_state(kit, state)
    found = {state: True}
    row = [state]
    while len(row) > 0:
        ahead = [led for here in row for _, led in kit[1][here] if led not in found]
        row = sorted(set(ahead))
        for led in row:
            found[led] = True
    return tuple(sorted(found))


def powered(kit, n):
    """Return the kit of the n-th power of the table, with the same states."""
    check_kit(kit)
    if not is_integer(n) or n < 1:
        raise InvalidPower(n)
    rows = kit[1]
    for _ in range(n - 1):
        rows = tuple([_led_on(kit, row) for row in rows])
    return (power(kit[0], n), rows)


def joined(kit, parts):
    """Return the kit with one state more, the last, whose picture is all parts (state, offset)."""
    check_kit(kit)
    _check_parts(kit, parts)
    table, states = kit
    row = [(offset, state) for state, offset in parts]
    return (table, states + (_led_on(kit, row),))


def met(kit, k, l, offset):
    """Return the kit whose state 0 is what the pictures of k, and of l moved by the offset, share."""
    check_kit(kit)
    check_state(kit, k)
    check_state(kit, l)
    check_offset(offset)
    start = (k, l, offset)
    graph = graph_of(kit, kit, start, near(kit, kit))
    places = {triple: at for at, triple in enumerate(lasting(graph))}
    if start not in places:
        raise NoMeeting(start)
    return (kit[0], tuple([_met_copies(graph[triple], places) for triple in places]))


def near(one, other):
    """Return (wide, high): no triple that lasts has an offset with greater absolute coordinates.

    Such an offset is a point of the one picture less one of the other, so it is made of steps less steps as a
    point is of steps. Both numbers are at most both reaches together, and mostly leave out far more triples.
    """
    far = _bound(one[0], max(_gap((1, 0), one, other), _gap((0, 1), one, other)))
    undoing, scale = _undoing(one[0])
    here, bottom = undoing, scale
    wide, high = _gap(here[0], one, other), _gap(here[1], one, other)
    # All that later steps add is at most the size of this power times the bound of the whole.
    while _size(here) * far >= bottom:
        here, bottom = product(here, undoing), bottom * scale
        wide = wide * scale + _gap(here[0], one, other)
        high = high * scale + _gap(here[1], one, other)
    rest = _size(here) * far
    most = reach(one) + reach(other)
    return (min(most, (wide + rest) // bottom), min(most, (high + rest) // bottom))


def graph_of(one, other, start, bounds):
    """Return the dict of a triple and all to which next ones lead, breadth first, with their next ones.

    Triples are those with offsets within the bounds (wide, high); it is empty if start is none.
    """
    graph = {}
    x, y = start[2]
    row = [start] if abs(x) <= bounds[0] and abs(y) <= bounds[1] else []
    while len(row) > 0:
        for triple in row:
            graph[triple] = next_ones(one, other, triple, bounds)
        row = _unseen(graph, row)
    return graph


def next_ones(one, other, triple, bounds):
    """Return the ascending list of (next triple, step of the one's copy) of a triple."""
    k, l, offset = triple
    wide, high = bounds
    x, y = times(one[0], offset)
    found = []
    for step, i in one[1][k]:
        left, low = x - step[0], y - step[1]
        for (p, q), j in other[1][l]:
            if -wide <= left + p <= wide and -high <= low + q <= high:
                found.append(((i, j, (left + p, low + q)), step))
    return sorted(found)


def lasting(graph):
    """Return the list of the triples of a graph with a row without end, in the graph's sequence."""
    many = {triple: len(graph[triple]) for triple in graph}
    ahead = {triple: [] for triple in graph}
    for triple in graph:
        for later, _ in graph[triple]:
            ahead[later].append(triple)
    ended = [triple for triple in graph if many[triple] == 0]
    while len(ended) > 0:
        last = ended.pop()
        for triple in ahead[last]:
            many[triple] -= 1
            if many[triple] == 0:
                ended.append(triple)
    return [triple for triple in graph if many[triple] > 0]


def check_kit(kit):
    """Raise InvalidKit for what is no kit."""
    if not is_kit(kit):
        raise InvalidKit(kit)


def check_state(kit, state):
    """Raise InvalidState for what is no index of the kit's states."""
    if not is_place(state, len(kit[1])):
        raise InvalidState(state)


def _check_parts(kit, parts):
    """Raise what is due for parts; states come ahead of offsets, both ahead of the form."""
    pairs = [part for part in parts if is_pair(part)] if isinstance(parts, tuple) else []
    for state, _ in pairs:
        check_state(kit, state)
    for _, offset in pairs:
        check_offset(offset)
    if len(pairs) == 0 or len(pairs) < len(parts):
        raise InvalidPair(parts)


def _is_state(told, many):
    """Tell whether it is an ascending tuple of copies, one or more, of a kit of so many states."""
    if not isinstance(told, tuple) or len(told) == 0:
        return False
    if not all([_is_copy(row, many) for row in told]):
        return False
    return all([told[at] < told[at + 1] for at in range(len(told) - 1)])


def _is_copy(told, many):
    """Tell whether it is a pair of a step and a state of a kit of so many states."""
    return is_pair(told) and is_offset(told[0]) and is_place(told[1], many)


def _bound(table, greatest):
    """Return the reach of pictures of a table whose steps have a greatest absolute value."""
    undoing, scale = _undoing(table)
    here, bottom = undoing, scale
    total = _size(here)
    while _size(here) >= bottom:
        here, bottom = product(here, undoing), bottom * scale
        total = total * scale + _size(here)
    # Dividing the number below 0 rounds the one above 0 up.
    return -((-greatest * total) // (bottom - _size(here)))


def _undoing(table):
    """Return (top, bottom): but for its sign the inverse of a table is the table top by the bottom."""
    (a, b), (c, d) = table
    return (((d, -b), (-c, a)), abs(determinant(table)))


def _size(table):
    """Return the greater of both rows' sums of absolute values."""
    (a, b), (c, d) = table
    return max(abs(a) + abs(b), abs(c) + abs(d))


def _steps(kit):
    """Return the list of all steps of a kit."""
    return [step for copies in kit[1] for step, _ in copies]


def _gap(row, one, other):
    """Return the greatest absolute value of a row times a step of the one kit less a step of the other."""
    a, b = row
    ones = [a * x + b * y for x, y in _steps(one)]
    others = [a * x + b * y for x, y in _steps(other)]
    return max(max(ones) - min(others), max(others) - min(ones))


def _farthest(offsets):
    """Return the greatest absolute value in some offsets."""
    return max([max(abs(x), abs(y)) for x, y in offsets])


def _led_on(kit, row):
    """Return the ascending tuple of what a row of (offset, state) becomes along one copy more, each once."""
    table, states = kit
    found = set()
    for offset, state in row:
        x, y = times(table, offset)
        for (p, q), led in states[state]:
            found.add(((x + p, y + q), led))
    return tuple(sorted(found))


def _unseen(graph, row):
    """Return the next ones of a row's triples that are not in the graph yet, each once, as they are met."""
    found = {}
    for triple in row:
        for later, _ in graph[triple]:
            if later not in graph:
                found[later] = True
    return list(found)


def _met_copies(nexts, places):
    """Return the ascending tuple of the copies (step, place of the next triple) that last."""
    return tuple(sorted({(step, places[later]) for later, step in nexts if later in places}))
