"""Which copies of a state lie together, and whether pictures hang together, with what shows it."""

from selfkits.errors import InvalidPaper
from selfkits.graphs import graph_from, lasting, numbered
from selfkits.kits import check_kit, check_state, graph_of, near, reached
from selfkits.meets import bounds_of, is_meeting, is_paper, meeting_of
from selfkits.shapes import is_ascending, is_integer, is_pair, is_place, is_row, is_two_rows


def together(kit, state):
    """Return the ascending list of the pairs (a, b), a below b, of places of copies that lie together."""
    check_kit(kit)
    check_state(kit, state)
    return _together(kit, state, _lasts_of(kit, (state,)))


def lots_of(kit, state):
    """Return the ascending list of the ascending tuples of the places of copies that hang together."""
    check_kit(kit)
    check_state(kit, state)
    return _lots_of(kit, state, _together(kit, state, _lasts_of(kit, (state,))))


def hangs(kit, state):
    """Return ("whole", rows) if all pictures that a state leads to hang together, else ("parted", ..)."""
    check_kit(kit)
    check_state(kit, state)
    states = reached(kit, state)
    lasts = _lasts_of(kit, states)
    rows = []
    for here in states:
        pairs = _together(kit, here, lasts)
        lot = _lots_of(kit, here, pairs)[0]
        if len(lot) < len(kit[1][here]):
            return ("parted", here, lot, _papers(kit, here, lot))
        rows.append((here, _tree(kit, here, pairs, lasts)))
    return ("whole", tuple(rows))


def is_whole(kit, state):
    """Tell whether all pictures that a state leads to hang together."""
    check_kit(kit)
    check_state(kit, state)
    states = reached(kit, state)
    lasts = _lasts_of(kit, states)
    return all([len(_lots_of(kit, here, _together(kit, here, lasts))) == 1 for here in states])


def is_hanging(kit, state, told):
    """Tell whether what is told, in the form of what `hangs` returns, is right."""
    check_kit(kit)
    check_state(kit, state)
    if not _is_whole(told) and not _is_parted(told):
        raise InvalidPaper(told)
    states = reached(kit, state)
    if told[0] == "parted":
        return told[1] in states and _are_parted(kit, told[1], told[2], told[3])
    if tuple([here for here, _ in told[1]]) != states:
        return False
    return all([_is_tree(kit, here, tree) for here, tree in told[1]])


def _triple(kit, state, a, b):
    """Return the triple of two places: the state of a, that of b, and b's step less a's."""
    (p, q), i = kit[1][state][a]
    (x, y), j = kit[1][state][b]
    return (i, j, (x - p, y - q))


def _lasts_of(kit, states):
    """Return the dict of the triples that last to which those of the pairs of places of some states lead."""
    starts = [
        _triple(kit, state, a, b)
        for state in states for b in range(len(kit[1][state])) for a in range(b)
    ]
    return lasting(graph_of(kit, kit, starts, near(kit, kit)))


def _together(kit, state, lasts):
    """Return the ascending list of the pairs of places that lie together."""
    many = len(kit[1][state])
    pairs = [(a, b) for a in range(many) for b in range(a + 1, many)]
    return [(a, b) for a, b in pairs if _triple(kit, state, a, b) in lasts]


def _lots_of(kit, state, pairs):
    """Return the ascending list of the lots of places that hang together by pairs."""
    beside = _beside(kit, state, pairs)
    lots = []
    seen = {}
    for first in range(len(beside)):
        if first not in seen:
            lot = _from(beside, first)
            lots.append(tuple(sorted(lot)))
            for place in lot:
                seen[place] = True
    return lots


def _beside(kit, state, pairs):
    """Return the list of the places, for each the ascending list of those with which it stands in a pair."""
    beside = [[] for _ in kit[1][state]]
    for a, b in pairs:
        beside[a].append(b)
        beside[b].append(a)
    return beside


def _from(beside, first):
    """Return the dict of the places to which one comes from a place, each with the one ahead of it."""
    ahead = {first: first}
    row = [first]
    while len(row) > 0:
        later = []
        for a in row:
            for b in beside[a]:
                if b not in ahead:
                    ahead[b] = a
                    later.append(b)
        row = later
    return ahead


def _tree(kit, state, pairs, lasts):
    """Return the ascending tuple of (a, b, address, address) that joins all places."""
    ahead = _from(_beside(kit, state, pairs), 0)
    found = []
    for b in range(1, len(ahead)):
        a = ahead[b]
        # Just one of the two triples is known to be among those that were looked at.
        if a < b:
            first, second = meeting_of(lasts, _triple(kit, state, a, b))
        else:
            second, first = meeting_of(lasts, _triple(kit, state, b, a))
        found.append((a, b, first, second))
    return tuple(sorted(found))


def _papers(kit, state, lot):
    """Return the tuple of (a, b, paper) for each place a of a lot and each b that is not of it."""
    others = [place for place in range(len(kit[1][state])) if place not in lot]
    bounds = bounds_of(kit, kit)
    pairs = [(a, b) for a in lot for b in others]
    graph = graph_of(kit, kit, [_triple(kit, state, a, b) for a, b in pairs], bounds)
    numbers = numbered(graph)
    return tuple([(a, b, _paper(graph, numbers, _triple(kit, state, a, b))) for a, b in pairs])


def _paper(graph, numbers, start):
    """Return the paper that all rows from a triple end, of the graph of it and other ones."""
    starts = [start] if start in graph else []
    found = graph_from(starts, lambda triple: graph[triple])
    return tuple([(triple, numbers[triple]) for triple in sorted(found)])


def _is_whole(told):
    """Tell whether something has the form of ("whole", rows)."""
    if not is_pair(told) or told[0] != "whole" or not isinstance(told[1], tuple):
        return False
    return all([is_pair(row) and is_integer(row[0]) and _has_form_of_tree(row[1]) for row in told[1]])


def _has_form_of_tree(told):
    """Tell whether something has the form of a tuple of (a, b, address, address)."""
    return isinstance(told, tuple) and all([_has_form_of_join(row) for row in told])


def _has_form_of_join(told):
    """Tell whether something has the form of (a, b, address, address)."""
    if not isinstance(told, tuple) or len(told) != 4:
        return False
    return is_row(told[:2]) and is_two_rows(told[2]) and is_two_rows(told[3])


def _is_parted(told):
    """Tell whether something has the form of ("parted", state, lot, papers)."""
    if not isinstance(told, tuple) or len(told) != 4 or told[0] != "parted" or not is_integer(told[1]):
        return False
    return is_row(told[2]) and isinstance(told[3], tuple) and all([_has_form_of_paper(row) for row in told[3]])


def _has_form_of_paper(told):
    """Tell whether something has the form of (a, b, paper)."""
    return isinstance(told, tuple) and len(told) == 3 and is_row(told[:2]) and is_paper(told[2])


def _is_tree(kit, state, tree):
    """Tell whether a tree joins all places of a state, by points that are common."""
    many = len(kit[1][state])
    if not is_ascending(tree) or sorted([b for _, b, _, _ in tree]) != list(range(1, many)):
        return False
    if not all([is_place(a, many) for a, _, _, _ in tree]):
        return False
    pairs = [(a, b) for a, b, _, _ in tree]
    if len(_from(_beside(kit, state, pairs), 0)) < many:
        return False
    return all([_is_join(kit, state, row) for row in tree])


def _is_join(kit, state, row):
    """Tell whether both addresses of (a, b, address, address) are of one point."""
    a, b, first, second = row
    i, j, offset = _triple(kit, state, a, b)
    return is_meeting(kit, i, kit, j, offset, ("meet", first, second))


def _are_parted(kit, state, lot, papers):
    """Tell whether papers show that a lot of places of a state, not empty and not all, is apart from the others."""
    many = len(kit[1][state])
    if not is_ascending(lot) or not all([is_place(place, many) for place in lot]) or not 0 < len(lot) < many:
        return False
    others = [place for place in range(many) if place not in lot]
    if [(a, b) for a, b, _ in papers] != [(a, b) for a in lot for b in others]:
        return False
    return all([_is_paper(kit, state, row) for row in papers])


def _is_paper(kit, state, row):
    """Tell whether the paper of (a, b, paper) is right."""
    a, b, paper = row
    i, j, offset = _triple(kit, state, a, b)
    return is_meeting(kit, i, kit, j, offset, ("apart", paper))
