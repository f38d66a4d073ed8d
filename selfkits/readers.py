"""What the texts of texts.py say: numbers, points, addresses and kits."""

from selfkits.errors import Unreadable
from selfkits.kits import is_kit
from selfkits.shapes import is_number

# The most digits that an integer has which is read.
MOST = 9


def read_number(text):
    """Return the number that a text shows."""
    return _one_line(text, number_from)


def read_point(text):
    """Return the point that a text shows."""
    return _one_line(text, _point_from)


def read_address(text):
    """Return the address that a text shows."""
    return _one_line(text, _address_from)


def read_kit(text):
    """Return the kit that a text shows."""
    lines = text.split("\n")
    table = _table_from(lines[0])
    if table is None:
        raise Unreadable(1)
    states = []
    for at in range(1, len(lines)):
        copies = _state_from(lines[at], at - 1)
        if copies is None:
            raise Unreadable(at + 1)
        states.append(copies)
    kit = (table, tuple(states))
    if not is_kit(kit):
        raise Unreadable(0)
    return kit


def integer_from(word):
    """Return the integer that a word shows, None if it shows none."""
    digits = word[1:] if word.startswith("-") else word
    if not digits.isdecimal() or len(digits) > MOST:
        return None
    # Just one text is of an integer, so there are no needless signs and noughts.
    number = int(word)
    return number if str(number) == word else None


def number_from(word):
    """Return the number that a word shows, None if it shows none."""
    top, line, bottom = word.partition("/")
    told = (integer_from(top), integer_from(bottom) if line == "/" else 1)
    if not is_number(told) or line == "/" and told[1] == 1:
        return None
    return told


def _one_line(text, read):
    """Return what the one line of a text shows."""
    line, more, _ = text.partition("\n")
    told = read(line)
    if told is None:
        raise Unreadable(1)
    if more != "":
        raise Unreadable(2)
    return told


def _point_from(line):
    """Return the point that a line shows, None if it shows none."""
    told = tuple([number_from(word) for word in line.split(" ")])
    return told if len(told) == 2 and None not in told else None


def _address_from(line):
    """Return the address that a line shows, None if it shows none."""
    words = line.split(" ")
    if words.count("(") != 1 or words[-1] != ")":
        return None
    at = words.index("(")
    ahead, ring = _places_from(words[:at]), _places_from(words[at + 1:-1])
    return (ahead, ring) if ahead is not None and ring is not None and len(ring) > 0 else None


def _places_from(words):
    """Return the tuple of the integers from 0 on that words show, None if one shows none."""
    told = tuple([integer_from(word) for word in words])
    return told if all([place is not None and place >= 0 for place in told]) else None


def _table_from(line):
    """Return the table that a line shows, None if it shows none."""
    words = line.split(" ")
    told = [integer_from(word) for word in words[1:]]
    if words[0] != "table" or len(told) != 4 or None in told:
        return None
    a, b, c, d = told
    return ((a, b), (c, d))


def _state_from(line, state):
    """Return the tuple of the copies that a state's line shows, None if it shows none."""
    start, _, rest = line.partition(" : ")
    copies = tuple([_copy_from(part) for part in rest.split(", ")])
    if start != str(state) or None in copies:
        return None
    return copies


def _copy_from(part):
    """Return the copy that a part of a line shows, None if it shows none."""
    told = [integer_from(word) for word in part.split(" ")]
    if len(told) != 3 or None in told or told[2] < 0:
        return None
    return ((told[0], told[1]), told[2])
