"""Texts of numbers, points, addresses, kits and drawn rows."""

# Python itself shows integers of up to 4300 digits.
MOST = 14000
DIGITS = 1000


def show_number(a):
    """Return the text of a number: its top, and its bottom if that is not 1."""
    top, bottom = a
    return _integer(top) if bottom == 1 else _integer(top) + "/" + _integer(bottom)


def show_point(point):
    """Return the text of a point: both numbers."""
    return show_number(point[0]) + " " + show_number(point[1])


def show_address(address):
    """Return the text of an address: the places, those of the ring between ( and )."""
    ahead, ring = address
    return " ".join([_integer(place) for place in ahead] + ["("] + [_integer(place) for place in ring] + [")"])


def show_kit(kit):
    """Return the text of a kit: a line of its table, and a line for each state."""
    (across, up), states = kit
    lines = ["table " + " ".join([_integer(part) for part in across + up])]
    for state, copies in enumerate(states):
        lines.append(f"{state} : " + ", ".join([_copy(step, led) for step, led in copies]))
    return "\n".join(lines)


def show_rows(rows):
    """Return the text of drawn rows."""
    return "\n".join(rows)


def _copy(step, led):
    """Return the text of a copy."""
    return _integer(step[0]) + " " + _integer(step[1]) + " " + _integer(led)


def _integer(number):
    """Return the text of an integer, however long it is."""
    if number.bit_length() < MOST:
        return str(number)
    scale = 1
    for _ in range(DIGITS):
        scale = 10 * scale
    parts = []
    rest = abs(number)
    while rest > 0:
        rest, part = divmod(rest, scale)
        parts.append(str(part).zfill(DIGITS))
    text = "".join(reversed(parts)).lstrip("0")
    return "-" + text if number < 0 else text
