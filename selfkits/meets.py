"""Whether two pictures have a common point: triples (k, l, offset), and the papers that show the answer."""

from selfkits.addresses import is_address, point_of
from selfkits.errors import InvalidPair, InvalidPaper
from selfkits.graphs import is_numbering, lasting, looped, numbered
from selfkits.kits import check_kit, check_state, graph_of, is_within, near, next_ones, reach
from selfkits.shapes import is_integer, is_offset, is_pair, is_place, is_two_rows
from selfkits.tables import check_offset


def meets(one, k, other, l, offset):
    """Return ("meet", address, address) of one point, or ("apart", paper) that shows that all rows end."""
    check_both(one, k, other, l, offset)
    start = (k, l, offset)
    lasts = lasting(graph_of(one, other, [start], near(one, other)))
    if start not in lasts:
        numbers = numbered(graph_of(one, other, [start], bounds_of(one, other)))
        return ("apart", tuple([(triple, numbers[triple]) for triple in sorted(numbers)]))
    first, second = meeting_of(lasts, start)
    return ("meet", first, second)


def is_meeting(one, k, other, l, offset, told):
    """Tell whether what is told, in the form of what `meets` returns, is right."""
    check_both(one, k, other, l, offset)
    if not _is_meet(told) and not _is_apart(told):
        raise InvalidPaper(told)
    if told[0] == "apart":
        bounds = bounds_of(one, other)
        starts = [(k, l, offset)] if is_within(offset, bounds) else []
        return is_numbering(told[1], starts, lambda triple: _nexts_of(one, other, triple, bounds))
    if not is_address(one, k, told[1]) or not is_address(other, l, told[2]):
        return False
    return point_of(one, k, told[1]) == _moved(point_of(other, l, told[2]), offset)


def do_meet(one, k, other, l, offset):
    """Tell whether the picture of k, and that of l moved by the offset, have a common point."""
    check_both(one, k, other, l, offset)
    start = (k, l, offset)
    return start in lasting(graph_of(one, other, [start], near(one, other)))


def triples(one, k, other, l, offset):
    """Return the ascending list of the triples with a row without end to which next ones lead, itself too."""
    check_both(one, k, other, l, offset)
    return sorted(lasting(graph_of(one, other, [(k, l, offset)], near(one, other))))


def check_both(one, k, other, l, offset):
    """Raise what is due for two kits, a state of each, and an offset."""
    check_like(one, other)
    check_state(one, k)
    check_state(other, l)
    check_offset(offset)


def check_like(one, other):
    """Raise what is due for two kits, and InvalidPair for those of unlike tables."""
    check_kit(one)
    check_kit(other)
    if one[0] != other[0]:
        raise InvalidPair((one, other))


def bounds_of(one, other):
    """Return (wide, high), the greatest absolute coordinates of the offsets of triples: both reaches together."""
    most = reach(one) + reach(other)
    return (most, most)


def meeting_of(lasts, start):
    """Return the addresses of one point, of both pictures of a triple that lasts."""
    ahead, ring = looped(lasts, start)
    first = (tuple([a for a, _ in ahead]), tuple([a for a, _ in ring]))
    second = (tuple([b for _, b in ahead]), tuple([b for _, b in ring]))
    return (first, second)


def is_paper(told):
    """Tell whether something has the form of a tuple of (triple, number)."""
    if not isinstance(told, tuple):
        return False
    return all([is_pair(row) and _is_triple(row[0]) and is_integer(row[1]) for row in told])


def _is_meet(told):
    """Tell whether something has the form of ("meet", address, address)."""
    if not isinstance(told, tuple) or len(told) != 3:
        return False
    return told[0] == "meet" and is_two_rows(told[1]) and is_two_rows(told[2])


def _is_apart(told):
    """Tell whether something has the form of ("apart", paper)."""
    return is_pair(told) and told[0] == "apart" and is_paper(told[1])


def _is_triple(told):
    """Tell whether something has the form of a triple."""
    if not isinstance(told, tuple) or len(told) != 3:
        return False
    return is_integer(told[0]) and is_integer(told[1]) and is_offset(told[2])


def _nexts_of(one, other, triple, bounds):
    """Return the list of the next ones of a triple, None of what has a triple's form but is none."""
    k, l, offset = triple
    if not is_place(k, len(one[1])) or not is_place(l, len(other[1])) or not is_within(offset, bounds):
        return None
    return [later for later, _ in next_ones(one, other, triple, bounds)]


def _moved(point, offset):
    """Return a point moved by an offset."""
    (x, x_bottom), (y, y_bottom) = point
    return ((x + offset[0] * x_bottom, x_bottom), (y + offset[1] * y_bottom, y_bottom))
