"""Whether a picture lies within another one, or is the same: what lots of offsets become along walks."""

from selfkits.addresses import is_walk
from selfkits.errors import InvalidPaper
from selfkits.graphs import lasting
from selfkits.kits import check_kit, graph_of, is_within, near
from selfkits.meets import bounds_of, check_both
from selfkits.shapes import is_ascending, is_integer, is_offset, is_pair, is_place, is_row
from selfkits.tables import times


def inside(one, k, other, l, offset):
    """Return ("inside", table) if the picture of k lies in that of l moved by the offset, else ("outside", walk)."""
    check_both(one, k, other, l, offset)
    return _inside(one, k, other, l, offset)


def is_inside(one, k, other, l, offset, told):
    """Tell whether what is told, in the form of what `inside` returns, shows what it says."""
    check_both(one, k, other, l, offset)
    if not is_pair(told) or not _is_form(told):
        raise InvalidPaper(told)
    lot = _first_lot(l, offset, bounds_of(one, other))
    if told[0] == "inside":
        return (k, lot) in told[1] and _is_closed(one, other, told[1])
    return is_walk(one, k, told[1]) and _is_emptied(one, k, other, lot, told[1])


def same(one, k, other, l, offset):
    """Return ("same", table, table) of one picture, else ("one", walk) or ("other", walk) of a piece outside."""
    check_both(one, k, other, l, offset)
    there = _inside(one, k, other, l, offset)
    if there[0] == "outside":
        return ("one", there[1])
    back = _inside(other, l, one, k, (-offset[0], -offset[1]))
    if back[0] == "outside":
        return ("other", back[1])
    return ("same", there[1], back[1])


def classes(kit):
    """Return the ascending tuple of the ascending tuples of the states that tell one picture."""
    check_kit(kit)
    fewer, blocks = _with_fewer(kit)
    many = range(len(fewer[1]))
    found = []
    lasts = _lasts_of(fewer, fewer, [(k, l, (0, 0)) for k in many for l in many])
    for block in many:
        alike = [row for row in found if _are_alike(fewer, lasts, row[0], block)]
        if len(alike) > 0:
            alike[0].append(block)
        else:
            found.append([block])
    return tuple([tuple([at for at, mine in enumerate(blocks) if mine in row]) for row in found])


def is_one_picture(one, k, other, l, offset):
    """Tell whether the picture of k is that of l moved by the offset."""
    first, ones = _with_fewer(one)
    second, others = _with_fewer(other)
    there, back = (ones[k], others[l], offset), (others[l], ones[k], (-offset[0], -offset[1]))
    if not _lies_in(first, _lasts_of(first, second, [there]), there):
        return False
    return _lies_in(second, _lasts_of(second, first, [back]), back)


def _with_fewer(kit):
    """Return (kit, blocks): the kit with a state for each block alone, and the list of the states' blocks.

    States of one block surely tell one picture. Of kits that are made these are often far fewer than states.
    """
    blocks = _blocks_of(kit)
    least = [blocks.index(block) for block in range(max(blocks) + 1)]
    return ((kit[0], tuple([_led_to_blocks(kit, state, blocks) for state in least])), blocks)


def _blocks_of(kit):
    """Return the list of the blocks of all states: those of one block have the same copies, led to blocks.

    Blocks are counted from 0 on, in the sequence of their least states.
    """
    blocks = [0 for _ in kit[1]]
    while True:
        numbers = {}
        later = []
        for state in range(len(blocks)):
            told = (blocks[state], _led_to_blocks(kit, state, blocks))
            if told not in numbers:
                numbers[told] = len(numbers)
            later.append(numbers[told])
        # Blocks are only parted, never joined.
        if len(numbers) == max(blocks) + 1:
            return blocks
        blocks = later


def _led_to_blocks(kit, state, blocks):
    """Return the ascending tuple of the copies of a state, led to the blocks of their states, each once."""
    return tuple(sorted({(step, blocks[led]) for step, led in kit[1][state]}))


def _inside(one, k, other, l, offset):
    """Return what `inside` does."""
    bounds = bounds_of(one, other)
    lot = _first_lot(l, offset, bounds)
    if len(lot) == 0:
        return ("outside", ())
    walks = {(k, lot): ()}
    row = [(k, lot)]
    # Each row holds what walks of one length lead to first, these walks ascending.
    while len(row) > 0:
        later = []
        for here in row:
            for place, there in enumerate(_led_to(one, other, here, bounds)):
                if len(there[1]) == 0:
                    return ("outside", walks[here] + (place,))
                if there not in walks:
                    walks[there] = walks[here] + (place,)
                    later.append(there)
        row = later
    return ("inside", tuple(sorted(walks)))


def _first_lot(l, offset, bounds):
    """Return the lot of (l, offset) alone; it is empty if the offset is beyond the bounds."""
    return ((l, offset),) if is_within(offset, bounds) else ()


def _led_to(one, other, here, bounds):
    """Return the list of (state, lot) to which the copies of a (state, lot) lead."""
    state, lot = here
    spread = _spread(other, lot)
    return [(led, _lot_by(spread, step, bounds)) for step, led in one[1][state]]


def _spread(other, lot):
    """Return the dict of x and a dict of all (j, y): copies of a lot lead to j at (x, y), ahead of any step less."""
    spread = {}
    for l, offset in lot:
        x, y = times(other[0], offset)
        for (p, q), j in other[1][l]:
            if x + p not in spread:
                spread[x + p] = {}
            spread[x + p][(j, y + q)] = True
    return spread


def _lot_by(spread, step, bounds):
    """Return the lot of what is spread, less a step."""
    p, q = step
    wide, high = bounds
    found = []
    # Most of what is spread is far off in x, so it is left out by whole dicts.
    for x in spread:
        if abs(x - p) <= wide:
            found.extend([(j, (x - p, y - q)) for j, y in spread[x] if abs(y - q) <= high])
    return tuple(sorted(found))


def _is_form(told):
    """Tell whether a pair has the form of ("inside", table) or of ("outside", walk)."""
    if told[0] == "outside":
        return is_row(told[1])
    if told[0] != "inside" or not isinstance(told[1], tuple):
        return False
    return all([is_pair(row) and is_integer(row[0]) and _has_form_of_lot(row[1]) for row in told[1]])


def _has_form_of_lot(told):
    """Tell whether something has the form of a lot."""
    if not isinstance(told, tuple):
        return False
    return all([is_pair(part) and is_integer(part[0]) and is_offset(part[1]) for part in told])


def _is_closed(one, other, table):
    """Tell whether each row is a state and a lot of it, not empty, and what all copies lead to is a row."""
    bounds = bounds_of(one, other)
    rows = {row: True for row in table}
    for state, lot in rows:
        if not is_place(state, len(one[1])) or not _is_lot(other, lot, bounds):
            return False
        if not all([there in rows for there in _led_to(one, other, (state, lot), bounds)]):
            return False
    return True


def _is_lot(other, lot, bounds):
    """Tell whether it is a lot, not empty."""
    if len(lot) == 0 or not is_ascending(lot):
        return False
    return all([is_place(l, len(other[1])) and is_within(offset, bounds) for l, offset in lot])


def _is_emptied(one, k, other, lot, walk):
    """Tell whether a lot of the state k becomes empty along a walk."""
    bounds = bounds_of(one, other)
    here = (k, lot)
    for place in walk:
        here = _led_to(one, other, here, bounds)[place]
    return len(here[1]) == 0


def _lasts_of(one, other, starts):
    """Return the dict of the triples that last to which next ones lead from some, with their ways on."""
    return lasting(graph_of(one, other, starts, near(one, other)))


def _lies_in(one, lasts, start):
    """Tell whether the picture of k lies in that of l moved by the offset, start being (k, l, offset).

    Its lots are made of the triples that last alone: a lot without such ones becomes empty sooner or later.
    """
    row = [(start,)] if start in lasts else [()]
    seen = {lot: True for lot in row}
    while len(row) > 0:
        later = []
        for lot in row:
            if len(lot) == 0:
                return False
            for there in _lasting_lots(one, lasts, lot):
                if there not in seen:
                    seen[there] = True
                    later.append(there)
        row = later
    return True


def _are_alike(kit, lasts, k, l):
    """Tell whether two states of a kit tell one picture."""
    return _lies_in(kit, lasts, (k, l, (0, 0))) and _lies_in(kit, lasts, (l, k, (0, 0)))


def _lasting_lots(one, lasts, lot):
    """Return the list of the lots, tuples of triples that last, that one of a state becomes along its copies."""
    found = [{} for _ in one[1][lot[0][0]]]
    for triple in lot:
        for later, (a, _) in lasts[triple]:
            found[a][later] = True
    return [tuple(sorted(there)) for there in found]
