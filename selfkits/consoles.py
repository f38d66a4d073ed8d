"""Consoles: kits kept under names, and orders in words."""

from selfkits.counts import area, count
from selfkits.errors import InvalidName, NothingToUndo, UnknownName, Unorderly
from selfkits.hulls import box
from selfkits.insides import same
from selfkits.kits import check_kit, met, powered
from selfkits.makes import alone, folded, moved, side_by_side, turned
from selfkits.meets import do_meet
from selfkits.pictures import drawn
from selfkits.pieces import is_whole
from selfkits.points import is_in
from selfkits.rates import fills
from selfkits.readers import integer_from, number_from, read_kit
from selfkits.texts import show_kit, show_number, show_rows

# What stands behind the word of an order: N a name, K the name of a kit that is kept, I an integer, Q a number.
MAKING = {
    "powered": "NKI", "moved": "NKIII", "met": "NKIIII", "turned": "NKIIII", "alone": "NKI", "beside": "NKK",
    "folded": "NK",
}
ASKING = {
    "show": "K", "same": "KIKIII", "meet": "KIKIII", "in": "KIQQ", "whole": "KI", "fills": "KI", "count": "KII",
    "area": "KI", "box": "KI", "drawn": "KIIIIII",
}
OTHERS = {"kit": "N", "drop": "N", "undo": "", "names": ""}


class Console:
    """Named kits, and what was changed of them."""

    def __init__(self):
        self._kept = {}
        # For each change the name, and the kit that was kept under it ahead of that, or None.
        self._changes = []

    def keep(self, name, kit):
        """Keep a kit under a name, in the place of an elder one."""
        if not is_name(name):
            raise InvalidName(name)
        check_kit(kit)
        self._change(name, kit)

    def drop(self, name):
        """Keep the kit of a name no longer."""
        self.kit(name)
        self._change(name, None)

    def undo(self):
        """Take back the last change that is not taken back."""
        if len(self._changes) == 0:
            raise NothingToUndo(0)
        name, kit = self._changes.pop()
        self._put(name, kit)

    def kit(self, name):
        """Return the kit of a name."""
        if not is_name(name) or name not in self._kept:
            raise UnknownName(name)
        return self._kept[name]

    def names(self):
        """Return the ascending list of the names."""
        return sorted(self._kept)

    def order(self, text):
        """Do what a text says, and return the answer."""
        lines = text.split("\n")
        word, shape, told = _parts_of(lines[0])
        if told is None or (len(lines) > 1) != (word == "kit"):
            raise Unorderly(text)
        # Names of kits that are kept are looked up ahead of all else, from the left.
        told = [self.kit(part) if sign == "K" else part for sign, part in zip(shape, told)]
        if word in ASKING:
            return _answer(word, told)
        if word == "names":
            return "none" if len(self._kept) == 0 else "\n".join(self.names())
        if word == "undo":
            self.undo()
        elif word == "drop":
            self.drop(told[0])
        elif word == "kit":
            self.keep(told[0], read_kit("\n".join(lines[1:])))
        else:
            self.keep(told[0], _made(word, told[1:]))
        return "done"

    def _change(self, name, kit):
        """Put a kit under a name, or none, and keep what was there."""
        self._changes.append((name, self._kept.get(name)))
        self._put(name, kit)

    def _put(self, name, kit):
        """Put a kit under a name, or none."""
        if kit is None:
            self._kept.pop(name)
        else:
            self._kept[name] = kit


def is_name(told):
    """Tell whether something is a name: one to eight letters from a to z."""
    if not isinstance(told, str) or not 1 <= len(told) <= 8:
        return False
    return all(["a" <= sign <= "z" for sign in told])


def _parts_of(line):
    """Return (word, shape, parts) of an order's first line; the parts are None if it is none."""
    words = line.split(" ")
    word, rest = words[0], words[1:]
    shape = MAKING.get(word, ASKING.get(word, OTHERS.get(word)))
    if shape is None or len(shape) != len(rest):
        return (word, shape, None)
    parts = [_part_from(sign, part) for sign, part in zip(shape, rest)]
    return (word, shape, None if None in parts else parts)


def _part_from(sign, part):
    """Return what a word of an order says, None if it is none of its kind."""
    if sign == "I":
        return integer_from(part)
    if sign == "Q":
        return number_from(part)
    return part if is_name(part) else None


def _made(word, told):
    """Return the kit that an order makes."""
    if word == "powered":
        return powered(told[0], told[1])
    if word == "moved":
        return moved(told[0], told[1], (told[2], told[3]))
    if word == "met":
        return met(told[0], told[1], told[2], (told[3], told[4]))
    if word == "turned":
        return turned(told[0], ((told[1], told[2]), (told[3], told[4])))
    if word == "alone":
        return alone(told[0], told[1])
    if word == "beside":
        return side_by_side(told[0], told[1])
    return folded(told[0])


def _answer(word, told):
    """Return the text that answers an order that asks."""
    kit, more = told[0], told[1:]
    if word == "show":
        return show_kit(kit)
    if word == "same":
        return same(kit, more[0], more[1], more[2], (more[3], more[4]))[0]
    if word == "meet":
        return _yes(do_meet(kit, more[0], more[1], more[2], (more[3], more[4])))
    if word == "in":
        return _yes(is_in(kit, more[0], (more[1], more[2])))
    if word == "whole":
        return _yes(is_whole(kit, more[0]))
    if word == "fills":
        return _yes(fills(kit, more[0]))
    if word == "count":
        return show_number((count(kit, more[0], more[1]), 1))
    if word == "area":
        return show_number(area(kit, more[0]))
    if word == "box":
        return " ".join([show_number(number) for number in box(kit, more[0])])
    return show_rows(drawn(kit, more[0], more[1], more[2], more[3], more[4], more[5]))


def _yes(told):
    """Return the word of an answer that is True or False."""
    return "yes" if told else "no"
