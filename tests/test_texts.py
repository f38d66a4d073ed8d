"""texts.py and readers.py: points [3], [4] and [5], what is shown, what is read of it, and what can not be read."""

import re
import unittest
from collections import Counter
from math import gcd

from samples import (
    BLOCK, CHAIN, DRAGON, DUST, FOUR, KITS, NO_KITS, SIDE, SKEWED, STILL, TWO, Base, small_kits, told_walks,
)
from selfkits import readers, texts
from selfkits.addresses import is_address, point_of
from selfkits.errors import KitError, Unreadable
from selfkits.kits import is_kit, joined, met, powered
from selfkits.makes import side_by_side
from selfkits.pictures import drawn
from selfkits.points import addresses
from selfkits.readers import read_address, read_kit, read_number, read_point
from selfkits.texts import show_address, show_kit, show_number, show_point, show_rows
from tiles import CARPET, GASKET, HAND_KITS, drawn_kits, made_kits

NUMBERS = [(0, 1), (1, 1), (-1, 1), (10, 1), (-120, 1), (1, 2), (-3, 2), (7, 10), (-999999999, 999999998),
    (999999999, 1),
           (1, 999999999), (100, 9), (-1, 30)]
ADDRESSES = [((), (0,)), ((3,), (0, 1)), ((), (2,)), ((1, 2, 3), (4,)), ((0, 0), (10, 0, 899)), ((999999999,), (0,))]
# What is put in the place of each sign, or between any two.
SIGNS = " -/019(),:\n.a+K~"
INTEGER = "(?:0|-?[1-9][0-9]{0,8})"
NATURAL = "(?:0|[1-9][0-9]{0,8})"
COPY = f"({INTEGER}) ({INTEGER}) ({NATURAL})"


def told_number(line):
    found = re.fullmatch(f"({INTEGER})(?:/([1-9][0-9]{{0,8}}))?", line)
    if not found:
        return None
    top, bottom = int(found[1]), int(found[2] or 1)
    return (top, bottom) if gcd(top, bottom) == 1 and found[2] != "1" else None


def told_point_of(line):
    parts = line.split(" ")
    numbers = tuple(told_number(part) for part in parts)
    return numbers if len(parts) == 2 and None not in numbers else None


def told_address(line):
    found = re.fullmatch(rf"((?:{NATURAL} )*)\(((?: {NATURAL})+) \)", line)
    return found and tuple(tuple(map(int, part.split())) for part in found.groups())


def one_line(read):
    """What a text of one line says, or the number of the line that can not stand."""
    def told(text):
        first, *more = text.split("\n")
        answer = read(first)
        return 1 if answer is None else 2 if more else answer
    return told


def told_kit(text):
    lines = text.split("\n")
    table = re.fullmatch(f"table ({INTEGER}) ({INTEGER}) ({INTEGER}) ({INTEGER})", lines[0])
    if not table:
        return 1
    a, b, c, d = map(int, table.groups())
    states = []
    for at, line in enumerate(lines[1:]):
        if not re.fullmatch(f"{at} : {COPY}(?:, {COPY})*", line):
            return at + 2
        copies = [tuple(map(int, part)) for part in re.findall(COPY, line.partition(" : ")[2])]
        states.append(tuple(((x, y), led) for x, y, led in copies))
    kit = (((a, b), (c, d)), tuple(states))
    return kit if is_kit(kit) else 0


READ = [
    (read_number, one_line(told_number), show_number), (read_point, one_line(told_point_of), show_point),
    (read_address, one_line(told_address), show_address), (read_kit, told_kit, show_kit),
]


def bent(text):
    """All texts that come of one by one sign put in, left out, or put otherwise, or two changed about."""
    for at in range(len(text) + 1):
        for sign in SIGNS:
            yield text[:at] + sign + text[at:]
            yield text[:at] + sign + text[at + 1:]
        yield text[:at] + text[at + 1:]
        yield text[:at] + text[at + 1:at + 2] + text[at:at + 1] + text[at + 2:]
        yield text[:at] + text[at:at + 2] * 2 + text[at + 2:]
        yield text[:at]
        yield text[at:]


class TextsTest(Base):
    def test_numbers(self):
        for number, text in [
            ((0, 1), "0"), ((1, 1), "1"), ((-7, 1), "-7"), ((1, 2), "1/2"), ((-3, 4), "-3/4"), ((10, 3), "10/3"),
            ((10 ** 40, 10 ** 40 + 1), "1" + "0" * 40 + "/1" + "0" * 39 + "1"),
        ]:
            self.assertEqual(self.both_ways(show_number, ("a",), (number,)), text)

    def test_points_and_addresses(self):
        self.assertEqual(self.both_ways(show_point, ("point",), (((1, 2), (-3, 1)),)), "1/2 -3")
        self.assertEqual(show_point(((0, 1), (5, 7))), "0 5/7")
        for address, text in [(((3,), (0, 1)), "3 ( 0 1 )"), (((), (2,)), "( 2 )"),
            (((1, 12), (899,)), "1 12 ( 899 )")]:
            self.assertEqual(self.both_ways(show_address, ("address",), (address,)), text)

    def test_kits(self):
        for kit, text in [
            (SIDE, "table 2 0 0 2\n0 : 0 0 0, 0 1 0"), (STILL, "table 1 -1 1 1\n0 : 0 0 0"),
            (CHAIN, "table 0 2 -1 0\n0 : -1 2 1\n1 : 0 0 2, 1 -3 3\n2 : 0 0 1\n3 : -2 0 3, 2 1 3"),
        ]:
            self.assertEqual(self.both_ways(show_kit, ("kit",), (kit,)), text)

    def test_rows(self):
        self.assertEqual(self.both_ways(show_rows, ("rows",), (drawn(DUST, 0, 2, 0, -1, 9, 2),)),
            "####.####\n####.####")
        self.assertEqual([show_rows([]), show_rows(["#"]), show_rows(["", ""])], ["", "#", "\n"])

    def test_long_integers(self):
        for digits in (999, 1000, 1001, 3999, 4000, 4299, 4300, 5000, 9001):
            for first in ("1", "-1", "9", "-27"):
                text = first + "0" * (digits // 2) + "3" * (digits - digits // 2 - len(first.strip("-")))
                number = 0
                for sign in text.strip("-"):
                    number = 10 * number + "0123456789".index(sign)
                number = -number if text.startswith("-") else number
                self.assertEqual(show_number((number, 1)), text)
                self.assertEqual(show_number((2, abs(number))), "2/" + text.strip("-"))
                self.assertEqual(show_point(((number, 1), (0, 1))), text + " 0")
        power = 1
        for _ in range(4400):
            power = 10 * power
        self.assertEqual(show_number((power, 1)), "1" + "0" * 4400)
        self.assertEqual(show_number((power - 1, 1)), "9" * 4400)
        self.assertEqual(show_kit((TWO, ((((-power, 0), 0),),))), "table 2 0 0 2\n0 : -1" + "0" * 4400 + " 0 0")


class ThereAndBackTest(Base):
    def check(self, show, read, told):
        back = read(show(told))
        self.assertEqual(back, told)
        self.all_tuples(back)
        # True and 1 are equal, so what is read is looked at in full.
        self.assertEqual(repr(back), repr(told))

    def test_numbers_and_points(self):
        numbers = NUMBERS + [(top, bottom) for top in range(-9, 10) for bottom in range(1, 9) if gcd(top, bottom) == 1]
        for number in numbers:
            self.check(show_number, read_number, number)
            self.check(show_point, read_point, (number, (-3, 7)))
            self.check(show_point, read_point, ((4, 1), number))

    def test_addresses(self):
        for address in ADDRESSES:
            self.check(show_address, read_address, address)
        for kit in (BLOCK, SIDE, CARPET, GASKET):
            for point in (((1, 2), (0, 1)), ((0, 1), (1, 1)), ((1, 3), (0, 1))):
                for address in addresses(kit, 0, point) or []:
                    self.check(show_address, read_address, address)
                    self.check(show_point, read_point, point_of(kit, 0, address))
                    self.assertTrue(is_address(kit, 0, read_address(show_address(address))))
        for ahead, _ in told_walks(CHAIN, 0, 6):
            self.check(show_address, read_address, (ahead, ahead[1:]))

    def test_kits(self):
        for kit in KITS + HAND_KITS + [CARPET] + small_kits() + drawn_kits(61, 60, states=4, copies=6, far=4):
            self.check(show_kit, read_kit, kit)

    def test_told_kits(self):
        made = [kit for kit, _ in made_kits()] + [powered(SKEWED, 3), powered(CARPET, 3), met(BLOCK, 0, 0, (0, 0))]
        row = STILL
        while len(row[1]) < 40:
            row = side_by_side(row, STILL)
            row = joined(row, ((0, (2, -1)), (len(row[1]) - 1, (0, 3))))
        made.append((row[0], row[1][:40]))
        made.append(met(FOUR, 0, 3, (1, 0)))
        self.assertEqual(len(made[-2][1]), 40)
        self.assertGreater(max(len(copies) for kit in made for copies in kit[1]), 200)
        for kit in made:
            self.assertTrue(is_kit(kit))
            self.check(show_kit, read_kit, kit)

    def test_shown_texts_are_read_as_the_judges_read_them(self):
        for read, told, show in READ:
            for thing in {read_number: NUMBERS, read_point: [((1, 2), (0, 1))], read_address: ADDRESSES,
                read_kit: KITS}[read]:
                self.assertEqual(told(show(thing)), thing)


class UnreadableTest(Base):
    def check(self, read, told, text):
        """What is read of a text, or where it can not be read, is what the judge says."""
        right = told(text)
        if type(right) is int:
            self.raises(Unreadable, right, read, text)
            return right
        self.assertEqual(read(text), right)
        return None

    def check_bent(self, read, told, texts_of):
        found = Counter()
        for text in texts_of:
            for other in bent(text):
                found[self.check(read, told, other)] += 1
        return found

    def test_bent_numbers(self):
        found = self.check_bent(read_number, READ[0][1], map(show_number, NUMBERS))
        self.assertGreater(min(found[None], found[1], found[2]), 20)

    def test_bent_points(self):
        found = self.check_bent(read_point, READ[1][1], ["1/2 -3", "0 0", "-12/5 1/10", "999999999 -1"])
        self.assertGreater(min(found[None], found[1], found[2]), 3)

    def test_bent_addresses(self):
        found = self.check_bent(read_address, READ[2][1], map(show_address, ADDRESSES))
        self.assertGreater(min(found[None], found[1], found[2]), 3)

    def test_bent_kits(self):
        found = self.check_bent(read_kit, told_kit, map(show_kit, [SIDE, DUST, STILL, CHAIN, SKEWED]))
        self.assertGreater(min(found[part] for part in (None, 0, 1, 2, 3, 4, 5)), 20)

    def test_numbers_by_hand(self):
        for text, told in [
            ("", 1), (" ", 1), ("-", 1), ("-0", 1), ("+1", 1), ("01", 1), ("1 ", 1), (" 1", 1), ("1/1", 1),
            ("2/4", 1), ("0/2", 1),
            ("1/0", 1), ("1/-2", 1), ("1/02", 1), ("/2", 1), ("1/", 1), ("1/2/3", 1), ("1 /2", 1), ("--1", 1),
            ("1.5", 1), ("1_0", 1),
            ("1234567890", 1), ("-1234567890", 1), ("1/1234567890", 1), ("1\n", 2), ("1\n\n", 2), ("1\n2", 2),
            ("\n1", 1), ("x\n1", 1),
            ("-1\nx", 2), ("01\nx", 1), ("2/1", 1), ("a", 1),
        ]:
            self.raises_both_ways(Unreadable, told, read_number, ("text",), (text,))
        self.assertEqual(self.both_ways(read_number, ("text",), ("-999999999/2",)), (-999999999, 2))

    def test_points_and_addresses_by_hand(self):
        for text, told in [
            ("", 1), ("1", 1), ("1 2 3", 1), ("1  2", 1), ("1 2 ", 1), (" 1 2", 1), ("1 2\n", 2), ("1 2\n3", 2),
            ("1\n2", 1), ("1,2", 1),
        ]:
            self.raises_both_ways(Unreadable, told, read_point, ("text",), (text,))
        for text, told in [
            ("", 1), ("0", 1), ("( )", 1), ("(  )", 1), ("()", 1), ("(0)", 1), ("( 0)", 1), ("(0 )", 1),
            ("( 0 ) ", 1), (" ( 0 )", 1),
            ("( 0 ) 1", 1), ("1( 0 )", 1), ("1  ( 0 )", 1), ("( -1 )", 1), ("-1 ( 0 )", 1), ("( 00 )", 1),
            ("( 0 )\n", 2),
            ("( 1 ) ( 0 )", 1), ("( ( 0 ) )", 1), (") 0 (", 1), ("( 1/2 )", 1), ("( 1234567890 )", 1), ("( 0\n)", 1),
            ("( 0 )\n1", 2),
        ]:
            self.raises_both_ways(Unreadable, told, read_address, ("text",), (text,))

    def test_kits_by_hand(self):
        for text, told in [
            ("", 1), ("table 2 0 0 2", 0), ("table 2 0 0 2\n", 2), ("table 2 0 0", 1), ("table 2 0 0 2 ", 1),
            ("table 2 0 0 2 0", 1),
            ("Table 2 0 0 2\n0 : 0 0 0", 1), ("table 1 0 0 1\n0 : 0 0 0", 0), ("table 2 0 0 2\n0 : 0 0 1", 0),
            ("table 2 0 0 2\n0 : 0 0 0, 0 0 0", 0), ("table 2 0 0 2\n0 : 0 1 0, 0 0 0", 0),
            ("table 2 0 0 2\n1 : 0 0 0", 2),
            ("table 2 0 0 2\n0 : 0 0 0\n0 : 0 0 0", 3), ("table 2 0 0 2\n0 : 0 0 0\n2 : 0 0 0", 3),
            ("table 2 0 0 2\n0 : ", 2),
            ("table 2 0 0 2\n0 :", 2), ("table 2 0 0 2\n0: 0 0 0", 2), ("table 2 0 0 2\n0 : 0 0", 2),
            ("table 2 0 0 2\n0 : 0 0 -1", 2),
            ("table 2 0 0 2\n0 : 0 0 0,", 2), ("table 2 0 0 2\n0 : 0 0 0,0 1 0", 2),
            ("table 2 0 0 2\n0 : 0 0 0 , 0 1 0", 2),
            ("table 2 0 0 2\n0 : 0 0 0\n", 3), ("table 2 0 0 2\n\n0 : 0 0 0", 2), ("table 1 0 0 1\n0 : 0 0 0\nx", 3),
            ("table 2 0 0 x\n0 : x", 1), ("table 2 0 0 2\n0 : 0 0 0 0", 2), ("table 2 0 0 2\n0 : 0 0 1\n1 : 0 0 -0", 3),
            ("table 1234567890 0 0 2\n0 : 0 0 0", 1), ("table 2 0 0 2\n0 : 1234567890 0 0", 2),
            ("table 2 0 0 2\n00 : 0 0 0", 2),
            ("table 2 0 0 2\n-0 : 0 0 0", 2), ("table 2 0 0 2\n0 : 0 0 1\n1 : 0 0 2", 0),
        ]:
            self.assertEqual(told_kit(text), told)
            self.raises_both_ways(Unreadable, told, read_kit, ("text",), (text,))
        self.assertEqual(read_kit("table 2 0 0 2\n0 : -999999999 0 0"), (TWO, ((((-999999999, 0), 0),),)))

    def test_kits_of_many_lines(self):
        lines = ["table 2 0 0 2"] + [f"{at} : 0 0 {39 - at}" for at in range(40)]
        self.assertEqual(len(read_kit("\n".join(lines))[1]), 40)
        for at in range(41):
            for other in ["", lines[at] + " ", lines[at].replace(" ", "  "), lines[at].replace("0", "00"),
                lines[at - 1]]:
                self.raises(Unreadable, at + 1, read_kit, "\n".join(lines[:at] + [other] + lines[at + 1:]))
        self.raises(Unreadable, 0, read_kit, "\n".join(lines[:-1]))
        self.raises(Unreadable, 42, read_kit, "\n".join(lines + [lines[-1]]))

    def test_what_is_no_kit_is_not_shown_as_one(self):
        shown = 0
        for bad in NO_KITS:
            try:
                text = show_kit(bad)
            except (TypeError, ValueError, AttributeError, IndexError):
                continue
            shown += 1
            self.assertNotEqual(told_kit(text), bad)
            try:
                self.assertNotEqual(repr(read_kit(text)), repr(bad))
            except KitError:
                pass
        self.assertGreater(shown, 10)

    def test_each_is_defined_where_it_is_listed(self):
        for name in ("show_number", "show_point", "show_address", "show_kit", "show_rows"):
            self.assertEqual(getattr(texts, name).__module__, "selfkits.texts")
        for name in ("read_number", "read_point", "read_address", "read_kit"):
            self.assertEqual(getattr(readers, name).__module__, "selfkits.readers")
        self.assertEqual(read_kit(show_kit(DRAGON)), DRAGON)


if __name__ == "__main__":
    unittest.main()
