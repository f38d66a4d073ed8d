"""How many squares show a picture at each zoom, the shortest rule of these numbers, and the picture's area."""

from selfkits.lots import Lots
from selfkits.remainders import nearest, primes, shortest_rule
from selfkits.roots import quotient, worth
from selfkits.shapes import lowest
from selfkits.squares import check_squares, check_zoom
from selfkits.tables import determinant


def count(kit, state, zoom):
    """Return how many squares are shown at a zoom."""
    check_squares(kit, state)
    check_zoom(zoom)
    return _counts(_ways_of(kit, state), zoom + 1)[zoom]


def rule(kit, state):
    """Return (firsts, rule): the shortest rule by which each count comes of those ahead, and the first counts."""
    check_squares(kit, state)
    firsts, parts = _rule(kit, state)
    return (firsts, tuple([(part, 1) for part in parts]))


def area(kit, state):
    """Return the area of the picture."""
    check_squares(kit, state)
    firsts, parts = _rule(kit, state)
    most = abs(determinant(kit[0]))
    rest = quotient(sum_of(parts), (1, -most))
    if rest is None:
        return (0, 1)
    # Squares that are shown come down to the picture, so of the counts that part is left that grows as the table does.
    total = sum([part * number for part, number in zip(rest, reversed(firsts))])
    return lowest(total, worth(rest, most, 1))


def sum_of(parts):
    """Return the sum of powers of which the rate is a root, of a rule's integers."""
    return (1,) + tuple([-part for part in parts])


def _ways_of(kit, state):
    """Return (starts, ways): the numbers of the lots at the zoom 0, and for each lot a list of (number, how often).

    These are the numbers of its parts' lots, which are far fewer than parts.
    """
    lots = Lots(kit)
    graph = lots.graph(state)
    places = {lot: at for at, lot in enumerate(graph)}
    ways = []
    for lot in graph:
        often = {}
        for later, _ in graph[lot]:
            often[places[later]] = often.get(places[later], 0) + 1
        ways.append([(at, often[at]) for at in often])
    return ([places[lot] for lot in lots.starts(state)], ways)


def _counts(told, many):
    """Return the list of so many counts, from the zoom 0 on."""
    starts, ways = told
    numbers = [starts.count(at) for at in range(len(ways))]
    found = []
    for _ in range(many):
        found.append(sum(numbers))
        later = [0] * len(ways)
        for at, number in enumerate(numbers):
            for there, often in ways[at]:
                later[there] += often * number
        numbers = later
    return found


def _rule(kit, state):
    """Return (firsts, parts): the shortest rule's integers, and as many first counts.

    A row of integers that has a rule has one of integers, and one that is as long as there are lots.
    """
    told = _ways_of(kit, state)
    many = len(told[1])
    counts = _counts(told, 2 * many)
    parts = []
    for prime in primes():
        parts = [nearest(part, prime) for part in shortest_rule(counts, prime)]
        # By a prime it is never too long. What it fails by has a rule as long as there are lots, too: it is right if
        # it does not fail at so many zooms.
        if all([_is_led(counts, parts, zoom) for zoom in range(len(parts), len(parts) + many)]):
            break
    return (tuple(counts[:len(parts)]), tuple(parts))


def _is_led(counts, parts, zoom):
    """Tell whether the count of a zoom comes of those ahead by a rule."""
    return counts[zoom] == sum([part * counts[zoom - 1 - n] for n, part in enumerate(parts)])
