"""consoles.py: kits under names, each method and each order against a plain model, and the errors of the section."""

import random
import re
import unittest
from collections import Counter
from fractions import Fraction
from math import gcd

from samples import (
    BLOCK, CHAIN, DRAGON, DUST, FOUR, NO_KITS, SIDE, STILL, TURN, TWO, Base, both_reaches, has_point,
    told_graph, without_end,
)
from selfkits import consoles
from selfkits.consoles import Console
from selfkits.errors import (
    InvalidKit, InvalidName, InvalidNumber, InvalidPair, InvalidPower, InvalidState, InvalidTurn, InvalidZoom, KitError,
    NoMeeting, NoReturn, NoSquares, NothingToUndo, UnknownName, Unorderly, Unreadable,
)
from selfkits.insides import same
from selfkits.hulls import box
from selfkits.kits import met, powered
from selfkits.makes import alone, folded, moved, side_by_side, turned
from selfkits.pieces import hangs
from selfkits.points import is_in
from selfkits.texts import show_kit
from test_pictures import told_rows
from test_texts import told_kit, told_number
from tiles import CARPET, CROSSED, GASKET, GOLDEN, few_kinds, told_area, told_counts, told_lots

NAME = "[a-z]{1,8}"
INTEGER = "(?:0|-?[1-9][0-9]{0,8})"
NUMBER = "[-/0-9]+"
FORMS = {
    "kit": "N", "powered": "N N I", "moved": "N N I I I", "met": "N N I I I I", "turned": "N N I I I I",
    "alone": "N N I",
    "beside": "N N N", "folded": "N N", "drop": "N", "undo": "", "show": "N", "same": "N I N I I I",
    "meet": "N I N I I I",
    "in": "N I Q Q", "whole": "N I", "fills": "N I", "count": "N I I", "area": "N I", "box": "N I",
    "drawn": "N I I I I I I", "names": "",
}
NO_NAMES = ["", "A", "abcdefghi", "a1", "a b", "a_b", "-", " a", "a ", "a\n", "ab-c", 5, None, ("a",), True, ["a"], {}]
# A table by which no step of a way comes back to it.
SHEARED = (((3, 1), (1, 2)), (SIDE[1][0],))
KITS = {"block": BLOCK, "side": SIDE, "dust": DUST, "dragon": DRAGON, "chain": CHAIN, "four": FOUR, "golden": GOLDEN}


def told_order(kits, text):
    """What an order does, as (kits, answer, is it a change, error, value)."""
    lines = text.split("\n")
    words = lines[0].split(" ")
    form = FORMS.get(words[0])
    patterns = {"N": NAME, "I": INTEGER, "Q": NUMBER}
    right = form is not None and len(form.split()) == len(words) - 1
    if right:
        for sign, word in zip(form.split(), words[1:]):
            right = right and re.fullmatch(patterns[sign], word) is not None
            right = right and (sign != "Q" or told_number(word) is not None)
    if not right or (words[0] == "kit") != (len(lines) > 1):
        return kits, None, False, Unorderly, text
    word, rest = words[0], words[1:]
    makes = word in ("powered", "moved", "met", "turned", "alone", "beside", "folded")
    named = [part for part, sign in zip(rest, form.split()) if sign == "N"]
    for name in named[1:] if makes else [] if word == "kit" else named:
        if name not in kits:
            return kits, None, False, UnknownName, name
    try:
        return told_doing(kits, word, rest, named, lines)
    except KitError as error:
        return kits, None, False, type(error), error.value


def told_doing(kits, word, rest, named, lines):
    numbers = [int(part) for part in rest if re.fullmatch(INTEGER, part)]
    given = [kits.get(name) for name in named]
    if word == "kit":
        told = told_kit("\n".join(lines[1:]))
        if type(told) is int:
            return kits, None, False, Unreadable, told
        return {**kits, rest[0]: told}, "done", True, None, None
    if word == "drop":
        return {name: kit for name, kit in kits.items() if name != rest[0]}, "done", True, None, None
    calls = {
        "powered": lambda: powered(given[1], numbers[0]), "moved": lambda: moved(given[1], numbers[0],
            tuple(numbers[1:])),
        "met": lambda: met(given[1], numbers[0], numbers[1], tuple(numbers[2:])),
        "turned": lambda: turned(given[1], (tuple(numbers[:2]), tuple(numbers[2:]))),
        "alone": lambda: alone(given[1], numbers[0]), "beside": lambda: side_by_side(given[1], given[2]),
        "folded": lambda: folded(given[1]),
    }
    if word in calls:
        return {**kits, rest[0]: calls[word]()}, "done", True, None, None
    return kits, told_answer(kits, word, rest, given, numbers), False, None, None


def told_answer(kits, word, rest, given, numbers):
    """The answers of orders that ask, by reckonings that are as plain as can be."""
    if word == "names":
        return "\n".join(sorted(kits)) or "none"
    kit = given[0]
    if word == "show":
        return show_kit(kit)
    if word == "same":
        return same(kit, numbers[0], given[1], numbers[1], tuple(numbers[2:]))[0]
    if word == "meet":
        same_table(kit, given[1])
        check_state(kit, numbers[0]), check_state(given[1], numbers[1])
        start = (numbers[0], numbers[1], tuple(numbers[2:]))
        return yes(start in without_end(told_graph(kit, given[1], start)))
    if word == "in":
        check_state(kit, numbers[0])
        return yes(has_point(kit, numbers[0], tuple(Fraction(part) for part in rest[2:])))
    if word == "whole":
        check_state(kit, numbers[0])
        return yes(hangs(kit, numbers[0])[0] == "whole")
    if word == "box":
        return " ".join(f"{top}" if bottom == 1 else f"{top}/{bottom}" for top, bottom in box(kit, numbers[0]))
    return told_squares(kit, word, numbers)


def told_squares(kit, word, numbers):
    (a, b), (c, d) = kit[0]
    if not (b == c == 0 or a == d == 0):
        raise NoSquares(kit[0])
    check_state(kit, numbers[0])
    if word == "fills":
        return yes(told_area(kit, numbers[0]) > 0)
    if word == "area":
        return str(told_area(kit, numbers[0]))
    if numbers[1] < 0:
        raise InvalidZoom(numbers[1])
    if word == "count":
        return str(told_counts(kit, numbers[0], numbers[1])[numbers[1]])
    for number in numbers[4:]:
        if number < 0:
            raise InvalidNumber(number)
    return "\n".join(told_rows(told_lots(kit, numbers[0], numbers[1]), *numbers[2:]))


def check_state(kit, state):
    if not 0 <= state < len(kit[1]):
        raise InvalidState(state)


def same_table(one, other):
    if one[0] != other[0]:
        raise InvalidPair((one, other))


def yes(told):
    return "yes" if told else "no"


class ModelBase(Base):
    def start(self, kits):
        console = Console()
        for name in kits:
            self.assertIsNone(console.keep(name, kits[name]))
        return console

    def same_as(self, console, kits):
        self.assertEqual(console.names(), sorted(kits))
        for name in kits:
            self.assertEqual(console.kit(name), kits[name])

    def step(self, console, kits, text):
        """Give an order to a console and to the model; the model's kits behind it, and whether it was a change."""
        later, answer, change, error, value = told_order(kits, text)
        if error is None:
            told = console.order(text)
            self.assertIs(type(told), str)
            self.assertEqual(told, answer, text)
        else:
            self.raises(error, value, console.order, text)
        self.same_as(console, later)
        return later, change, error


class MethodsTest(ModelBase):
    def test_keep_kit_names_drop(self):
        console = Console()
        self.assertEqual(console.names(), [])
        self.assertIsNone(console.keep("b", SIDE))
        self.assertIsNone(console.keep(kit=BLOCK, name="abcdefgh"))
        self.assertIsNone(console.keep("a", DRAGON))
        self.assertEqual(console.names(), ["a", "abcdefgh", "b"])
        self.assertEqual([console.kit("a"), console.kit(name="b"), console.kit("abcdefgh")], [DRAGON, SIDE, BLOCK])
        self.assertIsNone(console.keep("a", DUST))
        self.assertEqual(console.kit("a"), DUST)
        self.assertIsNone(console.drop(name="a"))
        self.assertEqual(console.names(), ["abcdefgh", "b"])
        self.raises(UnknownName, "a", console.kit, "a")

    def test_undo_to_the_beginning_and_again(self):
        console = Console()
        steps = [
            lambda: console.keep("a", SIDE), lambda: console.keep("a", BLOCK), lambda: console.drop("a"),
            lambda: console.order("kit b\n" + show_kit(DUST)), lambda: console.order("powered c b 2"),
            lambda: console.order("drop b"), lambda: console.keep("b", STILL), lambda: console.order("folded b c"),
        ]
        for _ in range(3):
            seen = [self.all_of(console)]
            for step in steps:
                step()
                seen.append(self.all_of(console))
            for at in reversed(range(len(steps))):
                if at % 2:
                    self.assertIsNone(console.undo())
                else:
                    self.assertEqual(console.order("undo"), "done")
                self.assertEqual(self.all_of(console), seen[at])
            self.raises(NothingToUndo, 0, console.undo)
            self.raises(NothingToUndo, 0, console.order, "undo")

    def all_of(self, console):
        return {name: console.kit(name) for name in console.names()}

    def test_undone_are_just_changes_that_raised_no_error(self):
        console = self.start({"a": SIDE, "b": BLOCK})
        for call in [
            lambda: console.keep("A", DUST), lambda: console.keep("c", 0), lambda: console.drop("c"),
            lambda: console.kit("c"),
            lambda: console.order("drop c"), lambda: console.order("powered c a 0"), lambda: console.order("kit c\nx"),
            lambda: console.order("met c a 0 0 9 9"), lambda: console.order("nothing"), lambda: console.order("kit c"),
        ]:
            self.assertRaises(KitError, call)
        for text in ["names", "show a", "count a 0 3", "same a 0 b 0 0 0"]:
            console.order(text)
        self.same_as(console, {"a": SIDE, "b": BLOCK})
        console.undo()
        self.same_as(console, {"a": SIDE})
        # What is changed behind an undo is the next one to be undone; what was undone does not come again.
        console.drop("a")
        console.undo()
        self.same_as(console, {"a": SIDE})
        console.undo()
        self.same_as(console, {})
        self.raises(NothingToUndo, 0, console.undo)
        self.raises(NothingToUndo, 0, console.undo)

    def test_a_kit_that_is_kept_again_is_a_change(self):
        console = self.start({"a": SIDE})
        console.keep("a", SIDE)
        console.undo()
        self.same_as(console, {"a": SIDE})
        console.undo()
        self.same_as(console, {})

    def test_many_changes(self):
        console, kits = Console(), [{}]
        row = list(KITS.values())
        for at in range(200):
            name = "abcdefg"[at * at % 7] * (1 + at % 3)
            if name in kits[-1] and at % 4 == 0:
                console.drop(name)
                kits.append({other: kit for other, kit in kits[-1].items() if other != name})
            else:
                console.keep(name, row[at % 5])
                kits.append({**kits[-1], name: row[at % 5]})
            self.same_as(console, kits[-1])
        while len(kits) > 1:
            kits.pop()
            console.undo()
            self.same_as(console, kits[-1])
        self.raises(NothingToUndo, 0, console.undo)

    def test_names_are_a_new_list(self):
        console = self.start({"a": SIDE, "b": BLOCK})
        told = console.names()
        told.append("c")
        told[0] = "d"
        self.assertEqual(console.names(), ["a", "b"])

    def test_consoles_have_nothing_in_common(self):
        one, other = Console(), Console()
        one.keep("a", SIDE)
        self.assertEqual(other.names(), [])
        self.raises(NothingToUndo, 0, other.undo)
        other.keep("a", BLOCK)
        self.assertEqual([one.kit("a"), other.kit("a")], [SIDE, BLOCK])

    def test_no_names(self):
        console = self.start({"a": SIDE})
        for bad in NO_NAMES:
            self.raises_both_ways(InvalidName, bad, console.keep, ("name", "kit"), (bad, SIDE))
            # The name comes ahead of the kit.
            self.raises_both_ways(InvalidName, bad, console.keep, ("name", "kit"), (bad, None))
            self.raises_both_ways(UnknownName, bad, console.drop, ("name",), (bad,))
            self.raises_both_ways(UnknownName, bad, console.kit, ("name",), (bad,))
        for bad in NO_KITS:
            self.raises_both_ways(InvalidKit, bad, console.keep, ("name", "kit"), ("a", bad))
            self.raises_both_ways(InvalidKit, bad, console.keep, ("name", "kit"), ("b", bad))
        self.same_as(console, {"a": SIDE})
        console.undo()
        self.raises(NothingToUndo, 0, console.undo)


class OrdersTest(ModelBase):
    def test_by_hand(self):
        console = Console()
        for text, told in [
            ("names", "none"), ("kit side\ntable 2 0 0 2\n0 : 0 0 0, 0 1 0", "done"), ("names", "side"),
            ("show side", "table 2 0 0 2\n0 : 0 0 0, 0 1 0"), ("powered p side 2", "done"),
            ("show p", "table 4 0 0 4\n0 : 0 0 0, 0 1 0, 0 2 0, 0 3 0"), ("moved m side 0 1 -2", "done"),
            ("show m", "table 2 0 0 2\n0 : 0 0 0, 0 1 0\n1 : 2 -4 0, 2 -3 0"), ("met t m 0 0 0 1", "done"),
            ("show t", "table 2 0 0 2\n0 : 0 1 0"), ("turned side side 0 1 1 0", "done"),
            ("show side", "table 2 0 0 2\n0 : 0 0 0, 1 0 0"), ("alone n m 1", "done"),
            ("show n", "table 2 0 0 2\n0 : 2 -4 1, 2 -3 1\n1 : 0 0 1, 0 1 1"), ("beside n side t", "done"),
            ("show n", "table 2 0 0 2\n0 : 0 0 0, 1 0 0\n1 : 0 1 1"), ("beside m m m", "done"), ("folded m m", "done"),
            ("show m", "table 2 0 0 2\n0 : 0 0 0, 0 1 0\n1 : 2 -4 0, 2 -3 0"), ("names", "m\nn\np\nside\nt"),
            ("same side 0 n 0 0 0", "same"), ("same side 0 n 1 0 0", "one"), ("same n 1 side 0 0 1", "other"),
            ("same n 1 m 0 0 0", "other"), ("meet side 0 m 0 0 0", "yes"), ("meet side 0 m 0 0 1", "no"),
            ("in side 0 1/3 0", "yes"), ("in side 0 0 1/3", "no"), ("in m 1 1 -3/2", "yes"), ("whole side 0", "yes"),
            ("fills side 0", "no"), ("count side 0 0", "6"), ("count side 0 2", "12"), ("area side 0", "0"),
            ("box m 1", "1 -2 1 -1"), ("drawn side 0 0 -2 -2 4 4", "....\n.###\n.###\n...."), ("undo", "done"),
            ("show m", "table 2 0 0 2\n0 : 0 0 0, 0 1 0\n1 : 2 -4 0, 2 -3 0\n2 : 0 0 2, 0 1 2\n3 : 2 -4 2, 2 -3 2"),
            ("drop m", "done"), ("names", "n\np\nside\nt"), ("drop side", "done"), ("undo", "done"), ("undo", "done"),
            ("names", "m\nn\np\nside\nt"), ("drawn side 0 3 0 0 0 2", "\n"), ("drawn side 0 3 0 0 2 0", ""),
        ]:
            self.assertEqual(self.both_ways(console.order, ("text",), (text,)) if text in ("names", "show p")
                             else console.order(text), told, text)

    def test_answers_with_fractions(self):
        console = self.start({"a": (((-2, 0), (0, 3)), ((((0, 0), 0), ((1, 1), 0)),)), "b": BLOCK, "c": CARPET,
            "d": DUST})
        for text, told in [
            ("box a 0", "-2/3 0 1/3 1/2"), ("area b 0", "1"), ("fills b 0", "yes"), ("whole d 0", "no"),
            ("whole c 0", "yes"),
            ("count b 0 60", str((2 ** 60 + 2) ** 2)), ("in a 0 -2/3 1/8", "yes" if is_in(
                console.kit("a"), 0, ((-2, 3), (1, 8))) else "no"), ("in c 0 1/9 1/9", "yes"),
        ]:
            self.assertEqual(console.order(text), told)

    def test_each_order_against_the_model(self):
        console, kits = self.start(KITS), dict(KITS)
        for text in [
            "powered a side 3", "powered side side 2", "powered a side 0", "powered a nothing 0", "moved a four 3 -2 1",
            "moved a four 4 0 0", "moved a none 4 0 0", "met a block 0 0 1 1", "met a block 0 0 2 0",
            "met a four 0 9 0 0",
            "met a four 9 8 0 0", "turned a golden 0 1 1 0", "turned a golden 0 1 1 1", "turned a dragon 0 1 1 0",
            "turned a dragon 0 -1 1 0", "alone a chain 2", "alone a chain -1", "beside a block four",
            "beside a block dust",
            "beside a x y", "beside a block y", "folded a a", "folded b zz", "drop a", "drop a", "undo", "show a",
            "show chain",
            "show x", "same block 0 four 0 0 0", "same block 0 dust 0 0 0", "same x 0 y 0 0 0", "same block 0 y 0 0 0",
            "same block 1 four 9 0 0", "same four 3 block 0 0 0", "same dragon 0 dragon 0 0 1",
            "meet block 0 four 2 1 0",
            "meet block 0 four 2 2 0", "meet block 1 four 2 2 0", "meet block 0 dust 0 0 0", "in golden 1 1/7 2/5",
            "in block 0 1 1/2",
            "in block 0 5 1/2", "in block 1 5 1/2", "whole dust 0", "whole golden 0", "whole golden 1",
            "whole golden 2",
            "fills four 3", "fills side 0", "fills dragon 0", "fills four 4", "count golden 0 200", "count golden 1 0",
            "count golden 1 -1", "count golden 2 -1", "count dragon 2 -1", "area four 3", "area four 2",
            "area golden 1", "area dragon 0",
            "box chain 0", "box four 3", "box four 4", "drawn golden 0 3 -1 -1 9 9", "drawn golden 0 3 -2 1 7 4",
            "drawn four 3 2 3 -1 4 6", "drawn golden 0 3 -1 -1 -9 -8",
            "drawn golden 0 3 -1 -1 9 -8", "drawn golden 0 -3 -1 -1 9 -8", "drawn golden 7 -3 -1 -1 9 -8",
            "drawn dragon 7 3 1 1 1 1",
            "names", "undo", "undo", "names", "kit a\ntable 2 0 0 2\n0 : 0 0 0", "kit a\ntable 2 0 0 2\n0 : 0 0 1",
            "kit a\n",
            "kit a\ntable 2 0 0 2\n0 : 0 0 0\n", "kit a\ntable 2 0 0 2", "kit block\ntable 1 -1 1 1\n0 : 3 3 0",
            "show block", "undo",
        ]:
            if text == "undo":
                # The model is put back by what the console did last.
                kits = self.back.pop() if self.back else kits
                self.assertEqual(console.order(text), "done")
                self.same_as(console, kits)
                continue
            later, change, _ = self.step(console, kits, text)
            if change:
                self.back = getattr(self, "back", []) + [kits]
            kits = later

    def test_long_rows_of_orders(self):
        found = Counter()
        for seed in range(15):
            self.drive(random.Random(seed), 150, found)
        words = {word for word, _ in found}
        self.assertEqual(words, set(FORMS))
        errors = {error for _, error in found}
        self.assertLessEqual({None, Unorderly, UnknownName, InvalidState, InvalidPower, InvalidTurn, NoMeeting,
            NoSquares,
                              InvalidPair, NothingToUndo, Unreadable, InvalidZoom, InvalidNumber}, errors)

    def drive(self, draws, many, found):
        console, kits, back = Console(), {}, []
        names = ["a", "bb", "abcdefgh", "x"]
        while many > 0:
            many -= 1
            text = self.drawn_order(draws, names, kits)
            word = text.split("\n")[0].split(" ")[0]
            if text == "undo":
                if not back:
                    self.raises(NothingToUndo, 0, console.order, text)
                    found["undo", NothingToUndo] += 1
                else:
                    self.assertEqual(console.order(text), "done")
                    kits = back.pop()
                    found["undo", None] += 1
                self.same_as(console, kits)
                continue
            later, change, error = self.step(console, kits, text)
            if change:
                back.append(kits)
            kits = later
            if word in FORMS:
                found[word, error] += 1

    def drawn_order(self, draws, names, kits):
        word = draws.choice(sorted(FORMS) + ["kit", "kit", "moved", "beside"])
        name = draws.choice(names)
        if word == "kit":
            text = show_kit(draws.choice([BLOCK, SIDE, DUST, GASKET, DRAGON, STILL, CROSSED, GOLDEN]))
            return f"kit {name}\n{text}" + draws.choice(["", "", "", "\n", " ", "\n1 : 0 0 0", ", 9 9 9"])
        if draws.randrange(25) == 0:
            return draws.choice([f"{word}", f"{word} ", f"{word} {name} 0 ", f"names {name}", "", "undo\n", "Names",
                f"drop {name} {name}"])
        known = sorted(kits) or names
        parts, first = [], True
        for sign in FORMS[word].split():
            if sign == "N" and first and word in ("powered", "moved", "met", "turned", "alone", "beside", "folded"):
                parts.append(name)
            elif sign == "N":
                parts.append(draws.choice(known if draws.randrange(9) else names))
            elif sign == "Q":
                top, bottom = draws.randint(-3, 5), draws.randint(1, 4)
                parts.append(f"{top // gcd(top, bottom)}" + (f"/{bottom // gcd(top, bottom)}" if bottom // gcd(top,
                    bottom) > 1 else ""))
            else:
                parts.append(str(draws.choice([0, 0, 0, 0, 1, 1, -1, 2])))
            first = False
        text = " ".join([word] + parts)
        return text if self.is_small(word, parts, kits) else "names"

    def is_small(self, word, parts, kits):
        """Whether the kits of an order are so small that the plain reckonings are done soon."""
        given = [kits[part] for part in parts if part in kits]
        if not all(len(kit[1]) < 5 and sum(map(len, kit[1])) < 20 and both_reaches(kit, kit) < 13 for kit in given):
            return False
        if word in ("count", "area", "fills") and given and given[0][0] != TURN and parts[1] in "01234":
            return int(parts[1]) >= len(given[0][1]) or few_kinds(given[0], int(parts[1]), 40)
        return word != "powered" or parts[2] in ("0", "1", "-1")


class UnorderlyTest(ModelBase):
    def test_orders_that_are_none(self):
        console = self.start({"a": SIDE, "b": BLOCK})
        for text in [
            "", " ", "\n", "none", "Names", "names ", " names", "names a", "names\n", "names\nnames", "undo ",
            "undo 1", "undo\n",
            "drop", "drop ", "drop A", "drop a b", "drop a\n", "drop abcdefghi", "drop a1", "show", "show a b",
            "show a ", "show  a",
            "show a\nx", "kit", "kit a", "kit A\n" + show_kit(SIDE), "kit a b\n" + show_kit(SIDE),
            "kit\n" + show_kit(SIDE),
            "kit  a\n" + show_kit(SIDE), "kit a \n" + show_kit(SIDE), "kit abcdefghi\n" + show_kit(SIDE),
            "powered c a", "powered c a x",
            "powered c a 1 1", "powered c a 01", "powered c a +1", "powered c a -0", "powered c a 1234567890",
            "powered C a 1",
            "powered c A 1", "powered c a 1/2", "powered c 1 a", "powered a 2", "moved c a 0 1", "moved c a 0 1 2 3",
            "moved c a 0 x 2",
            "moved c a 0 1 2 ", "moved c a 0 (1, 2)", "met c a 0 0 1", "met c a b 0 0 1 1", "turned c a 0 1 1",
            "turned c a 0 1 1 0 0",
            "alone c a", "alone a 0", "beside c a", "beside c a b a", "beside a b 0", "folded c", "folded c a b",
            "folded c 0",
            "same a 0 b 0 0", "same a 0 b 0 0 0 0", "same a b 0 0 0 0", "meet a 0 b 0 0 x", "in a 0 0",
            "in a 0 0 0 0", "in a 0 2/4 0",
            "in a 0 0 1/1", "in a 0 1/2 x", "in a 1/2 0 0", "in a 0 1/1234567890 0", "whole a", "whole a 0 0",
            "whole a b", "fills a",
            "fills a 0 1", "count a 0", "count a 0 0 0", "count a 0 1/2", "area a", "area a 0 0", "box a",
            "box a 0 1", "drawn a 0 0 0 0 1",
            "drawn a 0 0 0 0 1 1 1", "drawn a 0 0 0 0 1 x", "drawn a\n0 0 0 0 1 1", "keep c a", "shown a 0 0 0",
            "side_by_side c a b",
            "hangs a 0", "show a;", "show\ta", "show a\n", "fills  a 0", "fills a  0",
        ]:
            self.raises_both_ways(Unorderly, text, console.order, ("text",), (text,))
            self.same_as(console, {"a": SIDE, "b": BLOCK})
        # Ahead of names that are not there.
        for text in ["powered zz zz x", "show zz\n", "drop zz zz", "in zz 0 2/4 0"]:
            self.raises(Unorderly, text, console.order, text)
        console.undo()
        self.same_as(console, {"a": SIDE})

    def test_all_counts_of_words(self):
        console = self.start({"a": SIDE})
        for word, form in FORMS.items():
            right = len(form.split())
            for many in range(10):
                for part in ("a", "0", "1/2"):
                    text = " ".join([word] + [part] * many)
                    signs = {"N": part == "a", "I": part == "0", "Q": part != "a"}
                    if many != right or not all(signs[sign] for sign in form.split()) or word == "kit":
                        self.raises(Unorderly, text, console.order, text)

    def test_unknown_names(self):
        console = self.start({"a": SIDE, "b": BLOCK})
        for text, name in [
            ("powered a x 1", "x"), ("powered x y 1", "y"), ("moved x y 9 9 9", "y"), ("met a x 0 0 0 0", "x"),
            ("turned a x 1 1 1 1", "x"), ("alone a x 9", "x"), ("beside a x y", "x"), ("beside a b y", "y"),
            ("beside x y y", "y"),
            ("folded x x", "x"), ("drop x", "x"), ("show x", "x"), ("same x 0 y 0 0 0", "x"), ("same a 9 y 0 0 0", "y"),
            ("meet x 0 a 0 0 0", "x"), ("meet a 0 x 0 0 0", "x"), ("in x 9 0 0", "x"), ("whole x 0", "x"),
            ("fills x 0", "x"),
            ("count x 0 0", "x"), ("area x 0", "x"), ("box x 0", "x"), ("drawn x 0 0 0 0 -1 -1", "x"),
            ("show none", "none"),
        ]:
            self.raises(UnknownName, name, console.order, text)
            self.same_as(console, {"a": SIDE, "b": BLOCK})

    def test_errors_of_readers_and_functions(self):
        console = self.start({"a": SIDE, "b": BLOCK, "c": DUST, "d": DRAGON, "e": SHEARED})
        for text, error, value in [
            ("kit x\n", Unreadable, 1), ("kit x\ntable 2 0 0 2", Unreadable, 0),
            ("kit x\ntable 2 0 0 2\n0 : 0 0 0\n", Unreadable, 3),
            ("kit a\ntable 1 0 0 1\n0 : 0 0 0", Unreadable, 0), ("kit x\n\ntable 2 0 0 2\n0 : 0 0 0", Unreadable, 1),
            ("powered x a 0", InvalidPower, 0), ("powered x a -5", InvalidPower, -5),
            ("moved x a 1 0 0", InvalidState, 1),
            ("met x a 2 1 0 0", InvalidState, 2), ("met x a 0 1 0 0", InvalidState, 1),
            ("met x a 0 0 1 0", NoMeeting, (0, 0, (1, 0))),
            ("turned x a 1 1 0 1", InvalidTurn, ((1, 1), (0, 1))),
            ("turned x d 0 1 1 0", InvalidTurn, ((0, 1), (1, 0))),
            ("alone x a -1", InvalidState, -1), ("beside x a c", InvalidPair, (SIDE, DUST)),
            ("beside x d c", InvalidPair, (DRAGON, DUST)),
            ("same a 0 c 0 0 0", InvalidPair, (SIDE, DUST)), ("same a 3 b 4 0 0", InvalidState, 3),
            ("same a 0 b 4 0 0", InvalidState, 4),
            ("meet c 9 a 9 0 0", InvalidPair, (DUST, SIDE)), ("meet a 0 b -4 0 0", InvalidState, -4),
            ("in a 1 0 0", InvalidState, 1),
            ("whole a 1", InvalidState, 1), ("fills d 7", NoSquares, TURN), ("fills a 7", InvalidState, 7),
            ("count a 0 -1", InvalidZoom, -1),
            ("count d 0 -1", NoSquares, TURN), ("area d 0", NoSquares, TURN), ("area a 5", InvalidState, 5),
            ("box a 5", InvalidState, 5),
            ("box e 0", NoReturn, (1, 0)), ("drawn a 0 -1 0 0 -1 0", InvalidZoom, -1),
            ("drawn a 0 1 0 0 -1 -2", InvalidNumber, -1),
            ("drawn a 0 1 0 0 1 -2", InvalidNumber, -2), ("drawn d 0 1 0 0 1 -2", NoSquares, TURN),
        ]:
            self.raises(error, value, console.order, text)
            self.same_as(console, {"a": SIDE, "b": BLOCK, "c": DUST, "d": DRAGON, "e": SHEARED})
        for _ in range(5):
            console.undo()
        self.raises(NothingToUndo, 0, console.order, "undo")

    def test_it_is_defined_in_consoles(self):
        self.assertEqual(Console.__module__, "selfkits.consoles")
        for name in ("keep", "drop", "undo", "kit", "names", "order"):
            self.assertIn(name, vars(Console))
        self.assertEqual(consoles.Console, Console)
        self.assertEqual(TWO, SIDE[0])


if __name__ == "__main__":
    unittest.main()
