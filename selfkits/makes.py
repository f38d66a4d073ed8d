"""Kits that are made of kits: moved, turned, put side by side, and without what is not needed."""

from selfkits.errors import InvalidTurn
from selfkits.insides import classes
from selfkits.kits import check_kit, check_state, joined
from selfkits.meets import check_like
from selfkits.tables import check_offset, is_table, product, times

# All of them, ascending.
TURNS = (
    ((-1, 0), (0, -1)), ((-1, 0), (0, 1)), ((0, -1), (-1, 0)), ((0, -1), (1, 0)),
    ((0, 1), (-1, 0)), ((0, 1), (1, 0)), ((1, 0), (0, -1)), ((1, 0), (0, 1)),
)


def is_turn(told):
    """Tell whether a table is a turn."""
    return is_table(told) and told in TURNS


def turns_of(kit):
    """Return the ascending tuple of the turns that suit a kit."""
    check_kit(kit)
    return tuple([turn for turn in TURNS if _suits(kit, turn)])


def moved(kit, state, offset):
    """Return the kit with one state more, the last, whose picture is that of a state moved by the offset."""
    check_kit(kit)
    check_state(kit, state)
    check_offset(offset)
    return joined(kit, ((state, offset),))


def turned(kit, turn):
    """Return the kit whose pictures are the turned ones."""
    check_kit(kit)
    check_turn(kit, turn)
    states = [tuple(sorted([(times(turn, step), led) for step, led in copies])) for copies in kit[1]]
    return (kit[0], tuple(states))


def alone(kit, state):
    """Return the kit of the states to which a state leads: this one first, the others as met breadth first."""
    check_kit(kit)
    check_state(kit, state)
    places = {state: 0}
    row = [state]
    while len(row) > 0:
        later = []
        for here in row:
            for _, led in kit[1][here]:
                if led not in places:
                    places[led] = len(places)
                    later.append(led)
        row = later
    return (kit[0], tuple([_led_to_places(kit[1][here], places) for here in places]))


def side_by_side(one, other):
    """Return the kit with the states of both, the other one's behind."""
    check_like(one, other)
    many = len(one[1])
    behind = [tuple([(step, led + many) for step, led in copies]) for copies in other[1]]
    return (one[0], one[1] + tuple(behind))


def folded(kit):
    """Return the kit with one state for each of the classes, in their sequence."""
    check_kit(kit)
    rows = classes(kit)
    places = {state: at for at, row in enumerate(rows) for state in row}
    return (kit[0], tuple([_led_to_places(kit[1][row[0]], places) for row in rows]))


def check_turn(kit, turn):
    """Raise InvalidTurn for what is no turn, or does not suit a kit."""
    if not is_turn(turn) or not _suits(kit, turn):
        raise InvalidTurn(turn)


def _suits(kit, turn):
    """Tell whether a turn behind a kit's table and ahead of it comes to the same."""
    return product(kit[0], turn) == product(turn, kit[0])


def _led_to_places(copies, places):
    """Return the ascending tuple of copies that are led to the places of their states, each once."""
    return tuple(sorted({(step, places[led]) for step, led in copies}))
