"""Walks and addresses: rows of places of copies, and the points to which they lead."""

from selfkits.errors import InvalidAddress, InvalidPower, InvalidWalk
from selfkits.kits import check_kit, check_state
from selfkits.shapes import is_integer, is_place, is_row, is_two_rows, lowest
from selfkits.tables import determinant, power, times


def is_walk(kit, state, told):
    """Tell whether a tuple of integers is a walk from a state."""
    check_kit(kit)
    check_state(kit, state)
    return is_row(told) and _states_of(kit, state, told) is not None


def is_address(kit, state, told):
    """Tell whether a pair of tuples of integers is an address of a state."""
    check_kit(kit)
    check_state(kit, state)
    if not is_two_rows(told) or len(told[1]) == 0:
        return False
    states = _states_of(kit, state, told[0] + told[1])
    return states is not None and states[-1] == states[len(told[0])]


def ends(kit, state, walk):
    """Return (state, offset) of a walk: the table so often times its piece is this state's picture, so moved."""
    check_kit(kit)
    check_state(kit, state)
    if not is_walk(kit, state, walk):
        raise InvalidWalk(walk)
    return _ends(kit, state, walk)


def point_of(kit, state, address):
    """Return the point of an address."""
    check_address(kit, state, address)
    ahead, ring = address
    at, (left, low) = _ends(kit, state, ahead)
    _, (x, y) = _ends(kit, at, ring)
    # The ring's point is p with: its power of the table times p is p moved by the ring's offset.
    (a, b), (c, d) = power(kit[0], len(ring))
    less = ((a - 1, b), (c, d - 1))
    x, y = _turned_back(less, (x, y))
    bottom = determinant(less)
    behind = power(kit[0], len(ahead))
    x, y = _turned_back(behind, (x + left * bottom, y + low * bottom))
    bottom = bottom * determinant(behind)
    return (lowest(x, bottom), lowest(y, bottom))


def plain(kit, state, address):
    """Return the address of the same walk with the shortest ring, and then the shortest ahead."""
    check_address(kit, state, address)
    ahead, ring = address
    states = _states_of(kit, state, ahead + ring)
    first = len(ahead)
    # The same place in another state is another copy, so both are looked at.
    begins = [(states[at], ahead[at]) for at in range(first)]
    around = _shortest([(states[first + at], ring[at]) for at in range(len(ring))])
    while first > 0 and begins[first - 1] == around[(first - len(ahead) - 1) % len(around)]:
        first -= 1
    turn = (first - len(ahead)) % len(around)
    places = tuple([place for _, place in around])
    return (ahead[:first], places[turn:] + places[:turn])


def walks(kit, state, n):
    """Return the ascending list of all walks of n copies from a state."""
    check_kit(kit)
    check_state(kit, state)
    if not is_integer(n) or n < 0:
        raise InvalidPower(n)
    rows = [((), state)]
    for _ in range(n):
        rows = [(walk + (place,), led) for walk, at in rows for place, (_, led) in enumerate(kit[1][at])]
    return [walk for walk, _ in rows]


def check_address(kit, state, address):
    """Raise what is due for a kit, a state, and what is no address of it."""
    check_kit(kit)
    check_state(kit, state)
    if not is_address(kit, state, address):
        raise InvalidAddress(address)


def _states_of(kit, state, places):
    """Return the list of the states of a row of places, one more than places; None if it is no walk."""
    states = [state]
    for place in places:
        copies = kit[1][states[-1]]
        if not is_place(place, len(copies)):
            return None
        states.append(copies[place][1])
    return states


def _ends(kit, state, walk):
    """Return the state at the end of a walk, and the offset of its piece."""
    offset = (0, 0)
    for place in walk:
        (p, q), led = kit[1][state][place]
        x, y = times(kit[0], offset)
        state, offset = led, (x + p, y + q)
    return (state, offset)


def _turned_back(table, offset):
    """Return the offset that the table takes to its determinant times an offset."""
    (a, b), (c, d) = table
    x, y = offset
    return (d * x - b * y, a * y - c * x)


def _shortest(row):
    """Return the shortest row of which a row is so many."""
    many = len(row)
    for part in range(1, many):
        if many % part == 0 and row[part:] == row[:-part]:
            return row[:part]
    return row
