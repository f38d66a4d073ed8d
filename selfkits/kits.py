"""Kits (table, states): what they are, how far they reach, and the kits that are made of them."""

from selfkits.errors import InvalidKit, InvalidPair, InvalidPower, InvalidState, NoMeeting
from selfkits.graphs import graph_from, lasting
from selfkits.shapes import is_ascending, is_integer, is_offset, is_pair, is_place
from selfkits.tables import check_offset, inverse, is_growing, power, product, size


def is_kit(told):
    """Tell whether a tuple of tuples and integers is a kit."""
    if not is_pair(told) or not is_growing(told[0]):
        return False
    states = told[1]
    if not isinstance(states, tuple) or len(states) == 0:
        return False
    return all([_is_state(copies, len(states)) for copies in states])


def reach(kit):
    """Return the reach: no point of a picture has a coordinate of a greater absolute value."""
    check_kit(kit)
    return _bound(kit[0], _farthest(_steps(kit)))


def reached(kit, state):
    """Return the ascending tuple of the states to which walks from a state lead, itself too."""
    check_kit(kit)
    check_state(kit, state)
    found = {state: True}
    row = [state]
    while len(row) > 0:
        ahead = [led for here in row for _, led in kit[1][here] if led not in found]
        row = sorted(set(ahead))
        for led in row:
            found[led] = True
    return tuple(sorted(found))


def powered(kit, n):
    """Return the kit of the n-th power of the table, with the same states."""
    check_kit(kit)
    if not is_integer(n) or n < 1:
        raise InvalidPower(n)
    rows = kit[1]
    for _ in range(n - 1):
        rows = tuple([led_on(kit, row) for row in rows])
    return (power(kit[0], n), rows)


def joined(kit, parts):
    """Return the kit with one state more, the last, whose picture is all parts (state, offset)."""
    check_kit(kit)
    _check_parts(kit, parts)
    table, states = kit
    row = [(offset, state) for state, offset in parts]
    return (table, states + (led_on(kit, row),))


def met(kit, k, l, offset):
    """Return the kit whose state 0 is what the pictures of k, and of l moved by the offset, share."""
    check_kit(kit)
    check_state(kit, k)
    check_state(kit, l)
    check_offset(offset)
    start = (k, l, offset)
    lasts = lasting(graph_of(kit, kit, [start], near(kit, kit)))
    if start not in lasts:
        raise NoMeeting(start)
    places = {triple: at for at, triple in enumerate(lasts)}
    return (kit[0], tuple([_met_copies(kit, triple, lasts[triple], places) for triple in lasts]))


def near(one, other):
    """Return (wide, high): no triple that lasts has an offset with greater absolute coordinates.

    Such an offset is a point of the one picture less one of the other, so it is made of steps less steps as a
    point is of steps. Both numbers are at most both reaches together, and mostly leave out far more triples.
    """
    far = _bound(one[0], max(_gap((1, 0), one, other), _gap((0, 1), one, other)))
    undoing, scale = inverse(one[0])
    here, bottom = undoing, scale
    wide, high = _gap(here[0], one, other), _gap(here[1], one, other)
    # All that later steps add is at most the size of this power times the bound of the whole.
    while size(here) * far >= bottom:
        here, bottom = product(here, undoing), bottom * scale
        wide = wide * scale + _gap(here[0], one, other)
        high = high * scale + _gap(here[1], one, other)
    rest = size(here) * far
    most = reach(one) + reach(other)
    return (min(most, (wide + rest) // bottom), min(most, (high + rest) // bottom))


def graph_of(one, other, starts, bounds):
    """Return the graph of some triples and all to which next ones lead, breadth first.

    Triples are those with offsets within the bounds; others of the starts are left out.
    """
    row = [triple for triple in starts if is_within(triple[2], bounds)]
    return graph_from(row, lambda triple: next_ones(one, other, triple, bounds))


def is_within(offset, bounds):
    """Tell whether the absolute values of an offset are not beyond the bounds (wide, high)."""
    return abs(offset[0]) <= bounds[0] and abs(offset[1]) <= bounds[1]


def next_ones(one, other, triple, bounds):
    """Return the ascending list of (next triple, both copies' places) of a triple."""
    k, l, (p, q) = triple
    wide, high = bounds
    (a, b), (c, d) = one[0]
    x, y = a * p + b * q, c * p + d * q
    found = []
    row = other[1][l]
    # Copies ascend, so those of the other one that come near move on from copy to copy of the one.
    first = 0
    for place, (step, i) in enumerate(one[1][k]):
        left, low = x - step[0], y - step[1]
        while first < len(row) and left + row[first][0][0] < -wide:
            first += 1
        for at in range(first, len(row)):
            (p, q), j = row[at]
            if left + p > wide:
                break
            if -high <= low + q <= high:
                found.append(((i, j, (left + p, low + q)), (place, at)))
    return sorted(found)


def led_on(kit, row):
    """Return the ascending tuple of what a row of (offset, state) becomes along one copy more, each once."""
    ((a, b), (c, d)), states = kit
    found = set()
    for (x, y), state in row:
        left, low = a * x + b * y, c * x + d * y
        for (p, q), led in states[state]:
            found.add(((left + p, low + q), led))
    return tuple(sorted(found))


def check_kit(kit):
    """Raise InvalidKit for what is no kit."""
    if not is_kit(kit):
        raise InvalidKit(kit)


def check_state(kit, state):
    """Raise InvalidState for what is no index of the kit's states."""
    if not is_place(state, len(kit[1])):
        raise InvalidState(state)


def _check_parts(kit, parts):
    """Raise what is due for parts; states come ahead of offsets, both ahead of the form."""
    pairs = [part for part in parts if is_pair(part)] if isinstance(parts, tuple) else []
    for state, _ in pairs:
        check_state(kit, state)
    for _, offset in pairs:
        check_offset(offset)
    if len(pairs) == 0 or len(pairs) < len(parts):
        raise InvalidPair(parts)


def _is_state(told, many):
    """Tell whether it is an ascending tuple of copies, one or more, of a kit of so many states."""
    if not isinstance(told, tuple) or len(told) == 0:
        return False
    return all([_is_copy(row, many) for row in told]) and is_ascending(told)


def _is_copy(told, many):
    """Tell whether it is a pair of a step and a state of a kit of so many states."""
    return is_pair(told) and is_offset(told[0]) and is_place(told[1], many)


def _bound(table, greatest):
    """Return the reach of pictures of a table whose steps have a greatest absolute value."""
    undoing, scale = inverse(table)
    here, bottom = undoing, scale
    total = size(here)
    while size(here) >= bottom:
        here, bottom = product(here, undoing), bottom * scale
        total = total * scale + size(here)
    # Dividing the number below 0 rounds the one above 0 up.
    return -((-greatest * total) // (bottom - size(here)))


def _steps(kit):
    """Return the list of all steps of a kit."""
    return [step for copies in kit[1] for step, _ in copies]


def _gap(row, one, other):
    """Return the greatest absolute value of a row times a step of the one kit less a step of the other."""
    a, b = row
    ones = [a * x + b * y for x, y in _steps(one)]
    others = [a * x + b * y for x, y in _steps(other)]
    return max(max(ones) - min(others), max(others) - min(ones))


def _farthest(offsets):
    """Return the greatest absolute value in some offsets."""
    return max([max(abs(x), abs(y)) for x, y in offsets])


def _met_copies(kit, triple, ways, places):
    """Return the ascending tuple of the copies (step, place of the next triple) of a triple that lasts."""
    copies = kit[1][triple[0]]
    return tuple(sorted({(copies[a][0], places[later]) for later, (a, _) in ways}))
