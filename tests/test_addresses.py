"""addresses.py: point [5], walks, addresses, their points, and the errors of the section."""

import unittest
from itertools import product as all_of

from samples import (
    BLOCK, CHAIN, DRAGON, DUST, FOUR, KITS, NO_KITS, NO_STATES, SIDE, SKEWED, STILL, TURN, TWO, Base, fraction,
    is_told_address, leads, point_from, small_kits, taken, told_point, told_walks,
)
from selfkits import addresses
from selfkits.addresses import ends, is_address, is_walk, plain, point_of, walks
from selfkits.errors import InvalidAddress, InvalidKit, InvalidPower, InvalidState, InvalidWalk
from selfkits.kits import joined, met, powered
from selfkits.tables import power, times

# One picture, told by two states in turn.
PAIR = (TWO, ((((0, 0), 1), ((0, 1), 1)), (((0, 0), 0), ((0, 1), 0))))
NO_ROWS = [None, 0, "0", [], [0], (None,), ("0",), ((0,),), (True,), (False,), (0, True)]
SHORT_ROWS = [places for n in range(4) for places in all_of(range(-1, 3), repeat=n)]


def all_addresses(kit, state, most):
    """All addresses of at most so many places."""
    found = []
    for n in range(1, most + 1):
        for places, states in told_walks(kit, state, n):
            found.extend((places[:at], places[at:]) for at in range(n) if states[at] == states[-1])
    return found


def course(kit, state, address, n):
    """The first pairs (state, place) of a walk without end."""
    places = address[0]
    while len(places) < n:
        places += address[1]
    return list(zip(leads(kit, state, places), places[:n]))


def told_plain(kit, state, address):
    """[5] in its own words: the first of all shorter addresses, rings counting ahead of what is ahead of them."""
    many = len(address[0]) + 2 * len(address[1])
    told = course(kit, state, address, 3 * many)
    places = tuple(place for _, place in told)
    for ring in range(1, len(address[1]) + 1):
        for ahead in range(len(address[0]) + 1):
            tried = (places[:ahead], places[ahead:ahead + ring])
            if is_told_address(kit, state, tried) and course(kit, state, tried, 3 * many) == told:
                return tried
    return None


class WalksTest(Base):
    def test_right_walks(self):
        for kit in KITS + [PAIR] + small_kits()[::7]:
            for state in range(len(kit[1])):
                for n in range(4):
                    for places, _ in told_walks(kit, state, n):
                        self.assertIs(self.both_ways(is_walk, ("kit", "state", "told"), (kit, state, places)), True)

    def test_short_rows(self):
        for kit in (SIDE, STILL, CHAIN, SKEWED):
            for state in range(len(kit[1])):
                right = {places for n in range(4) for places, _ in told_walks(kit, state, n)}
                for row in SHORT_ROWS:
                    self.assertIs(is_walk(kit, state, row), row in right, row)

    def test_by_hand(self):
        # From 0 there is one copy, to 1; from 1 there are two, to 2 and to 3.
        for told, right in [
            ((), True), ((0,), True), ((0, 1), True), ((0, 1, 1, 1), True), ((0, 0, 0, 1), True), ((1,), False),
            ((0, 2), False), ((0, 0, 1), False), ((-1,), False), ((0, -1), False), ((10 ** 30,), False),
        ]:
            self.assertIs(is_walk(CHAIN, 0, told), right, told)

    def test_a_place_put_in_or_left_out(self):
        self.assertIs(is_walk(CHAIN, 0, (0, 0, 0, 1)), True)
        self.assertIs(is_walk(CHAIN, 0, (0, 0, 1)), False)
        self.assertIs(is_walk(CHAIN, 0, (0, 0, 0, 0, 1)), False)
        self.assertIs(is_walk(CHAIN, 0, (0, 0, 0, 0, 0, 1)), True)

    def test_what_is_no_row(self):
        for told in NO_ROWS:
            self.assertIs(is_walk(BLOCK, 0, told), False, told)

    def test_a_long_walk(self):
        self.assertIs(is_walk(BLOCK, 0, (3, 1, 2) * 2000), True)
        self.assertIs(is_walk(BLOCK, 0, (3, 1, 2) * 2000 + (4,)), False)

    def test_all_walks(self):
        for kit in KITS + small_kits()[::11]:
            for state in range(len(kit[1])):
                for n in range(4):
                    told = self.both_ways(walks, ("kit", "state", "n"), (kit, state, n))
                    self.assertIs(type(told), list)
                    self.assertEqual(told, sorted(places for places, _ in told_walks(kit, state, n)))

    def test_all_walks_by_hand(self):
        self.assertEqual(walks(CHAIN, 1, 2), [(0, 0), (1, 0), (1, 1)])
        self.assertEqual(walks(SIDE, 0, 2), [(0, 0), (0, 1), (1, 0), (1, 1)])
        self.assertEqual([len(walks(BLOCK, 0, n)) for n in range(7)], [1, 4, 16, 64, 256, 1024, 4096])
        self.assertEqual(walks(STILL, 0, 6), [(0,) * 6])
        self.assertEqual(walks(STILL, 0, 0), [()])

    def test_walks_are_new_each_time(self):
        for n in (0, 2):
            told = walks(SIDE, 0, n)
            right = list(told)
            told.append((7,))
            told[0] = None
            self.assertEqual(walks(SIDE, 0, n), right)
            for walk in right:
                self.all_tuples(walk)


class AddressesTest(Base):
    def test_short_pairs(self):
        rows = [row for row in SHORT_ROWS if len(row) < 3]
        for kit in (SIDE, STILL, CHAIN, SKEWED):
            for state in range(len(kit[1])):
                for told in all_of(rows, rows):
                    right = is_told_address(kit, state, told)
                    self.assertIs(self.both_ways(is_address, ("kit", "state", "told"), (kit, state, told)), right, told)

    def test_by_hand(self):
        for told, right in [
            (((0,), (0, 0)), True), (((0, 1), (1,)), True), (((0, 1), (0, 1)), True), (((0, 0), (0, 0)), True),
            # a ring that is empty, or does not lead back
            (((0,), ()), False), (((), ()), False), (((0,), (0,)), False), (((), (0, 0, 0)), False),
            (((0, 0), (0,)), False), (((), (0, 1, 1)), False), (((0,), (1,)), False),
            # places that are none
            (((0, 1), (2,)), False), (((1,), (0, 0)), False), (((0, 1), (-1,)), False), (((-1,), (0, 0)), False),
        ]:
            self.assertIs(is_address(CHAIN, 0, told), right, told)

    def test_what_is_no_pair_of_rows(self):
        for row in NO_ROWS:
            self.assertIs(is_address(BLOCK, 0, (row, (0,))), False)
            self.assertIs(is_address(BLOCK, 0, ((), row)), False)
        for told in [None, 0, (), ((),), ((0,),), ((), (0,), ()), [(), (0,)], (0, 0), "ab", ((0,), None)]:
            self.assertIs(is_address(BLOCK, 0, told), False, told)

    def test_places_count_alone_but_lead_back_to_the_state(self):
        self.assertIs(is_address(PAIR, 0, ((), (1, 1))), True)
        self.assertIs(is_address(PAIR, 0, ((), (1,))), False)
        self.assertIs(is_address(PAIR, 0, ((), (0, 1, 0))), False)


class EndsTest(Base):
    def test_by_hand(self):
        names = ("kit", "state", "walk")
        for kit, state, walk, told in [
            (BLOCK, 0, (), (0, (0, 0))), (CHAIN, 2, (), (2, (0, 0))), (BLOCK, 0, (3,), (0, (1, 1))),
            (BLOCK, 0, (3, 0), (0, (2, 2))), (BLOCK, 0, (3, 0, 1), (0, (4, 5))), (FOUR, 3, (3, 2), (3, (6, 2))),
            (CHAIN, 0, (0,), (1, (-1, 2))), (CHAIN, 0, (0, 1), (3, (5, -2))), (CHAIN, 1, (1, 1), (3, (-4, 0))),
            (DRAGON, 0, (1, 1, 0), (0, (1, 3))),
        ]:
            self.assertEqual(self.both_ways(ends, names, (kit, state, walk)), told)

    def test_as_the_document_words_it(self):
        for kit in KITS + small_kits()[::9]:
            for state in range(len(kit[1])):
                for places, states in told_walks(kit, state, 4):
                    x = y = 0
                    for i in range(1, 5):
                        p, q = times(power(kit[0], 4 - i), kit[1][states[i - 1]][places[i - 1]][0])
                        x, y = x + p, y + q
                    self.assertEqual(ends(kit, state, places), (states[-1], (x, y)))

    def test_the_piece_is_the_moved_picture(self):
        # The point of an address is in the piece of its walk: so it lies where the offset says.
        for kit in (DUST, FOUR, CHAIN, SKEWED):
            for address in all_addresses(kit, 0, 5):
                ahead, ring = address
                at, (x, y) = ends(kit, 0, ahead)
                p, q = map(fraction, point_of(kit, at, ((), ring)))
                told = taken(power(kit[0], len(ahead)), map(fraction, point_of(kit, 0, address)))
                self.assertEqual(told, (x + p, y + q))

    def test_a_long_walk(self):
        self.assertEqual(ends(SIDE, 0, (1,) * 3000), (0, (0, 2 ** 3000 - 1)))


class PointOfTest(Base):
    def test_by_hand(self):
        names = ("kit", "state", "address")
        for kit, state, address, told in [
            (BLOCK, 0, ((3,), (0,)), ((1, 2), (1, 2))), (BLOCK, 0, ((), (2,)), ((1, 1), (0, 1))),
            (BLOCK, 0, ((0,), (3,)), ((1, 2), (1, 2))), (BLOCK, 0, ((), (2, 0)), ((2, 3), (0, 1))),
            (DUST, 0, ((0,), (1,)), ((1, 3), (0, 1))), (STILL, 0, ((), (0,)), ((0, 1), (0, 1))),
            # The table times itself is -1: p = -(turned 1, 0) less p.
            (DRAGON, 0, ((), (1,)), ((0, 1), (-1, 1))), (DRAGON, 0, ((1,), (0,)), ((1, 2), (-1, 2))),
        ]:
            self.assertEqual(self.both_ways(point_of, names, (kit, state, address)), told)

    def test_as_the_document_words_it(self):
        for kit in KITS + [PAIR] + small_kits()[::5]:
            for state in range(len(kit[1])):
                for address in all_addresses(kit, state, 3):
                    told = point_of(kit, state, address)
                    self.assertEqual(told, point_from(told_point(kit, state, address)))
                    self.all_tuples(told)

    def test_the_first_copy_and_the_rest(self):
        for kit in KITS + small_kits()[1::9]:
            for ahead, ring in all_addresses(kit, 0, 4):
                step, led = kit[1][0][(ahead + ring)[0]]
                rest = (ahead[1:], ring) if ahead else ((), ring[1:] + ring[:1])
                x, y = map(fraction, point_of(kit, led, rest))
                told = taken(kit[0], map(fraction, point_of(kit, 0, (ahead, ring))))
                self.assertEqual(told, (x + step[0], y + step[1]))

    def test_tables_below_0(self):
        for table in (((0, 2), (1, 0)), ((2, 0), (0, -2)), ((-2, 0), (0, -2)), ((1, 2), (2, -1))):
            kit = (table, ((((-1, 3), 1), ((2, 0), 0)), (((0, 1), 0),)))
            for address in all_addresses(kit, 0, 6):
                self.assertEqual(point_of(kit, 0, address), point_from(told_point(kit, 0, address)))

    def test_long_addresses(self):
        self.assertEqual(point_of(SIDE, 0, ((0,) * 500, (1,))), ((0, 1), (1, 2 ** 500)))
        self.assertEqual(point_of(SIDE, 0, ((), (1,) + (0,) * 499)), ((0, 1), (2 ** 499, 2 ** 500 - 1)))

    def test_of_kits_that_are_made(self):
        for kit in (powered(BLOCK, 3), joined(DRAGON, ((0, (1, 1)), (0, (-9, 9)))), met(BLOCK, 0, 0, (1, 0))):
            for state in range(len(kit[1])):
                for address in all_addresses(kit, state, 2):
                    self.assertEqual(point_of(kit, state, address), point_from(told_point(kit, state, address)))


class PlainTest(Base):
    def test_by_hand(self):
        names = ("kit", "state", "address")
        for kit, state, address, told in [
            (BLOCK, 0, ((2, 1), (2, 1, 2, 1)), ((), (2, 1))), (BLOCK, 0, ((), (1,)), ((), (1,))),
            (BLOCK, 0, ((1, 1, 1), (1, 1)), ((), (1,))), (BLOCK, 0, ((0, 1, 2), (1, 2)), ((0,), (1, 2))),
            (BLOCK, 0, ((0, 2), (1, 2)), ((0,), (2, 1))), (BLOCK, 0, ((3, 0), (1, 0, 0, 1, 0, 0)), ((3,), (0, 1, 0))),
            (BLOCK, 0, ((0, 0, 1), (0,)), ((0, 0, 1), (0,))), (BLOCK, 0, ((), (0, 1, 0)), ((), (0, 1, 0))),
            (BLOCK, 0, ((1, 0, 0, 1), (0, 0, 1)), ((), (1, 0, 0))), (BLOCK, 0, ((2,), (0, 1, 2)), ((), (2, 0, 1))),
        ]:
            self.assertEqual(self.both_ways(plain, names, (kit, state, address)), told)

    def test_states_count_not_places_alone(self):
        self.assertEqual(plain(PAIR, 0, ((), (1, 1))), ((), (1, 1)))
        self.assertEqual(plain(PAIR, 0, ((), (1, 1, 1, 1, 1, 1))), ((), (1, 1)))
        self.assertEqual(plain(PAIR, 1, ((0, 1, 1), (1, 1, 1, 1))), ((0,), (1, 1)))
        self.assertEqual(plain(PAIR, 0, ((1,), (0, 1))), ((), (1, 0)))
        # State 0 leads to 1 for good, by copies of the same places.
        kit = (TWO, ((((0, 0), 1), ((1, 0), 1)), (((0, 0), 1), ((1, 0), 1))))
        self.assertEqual(plain(kit, 0, ((1, 1, 1), (1, 1))), ((1,), (1,)))
        self.assertEqual(plain(kit, 0, ((0, 1), (0, 1, 0, 1))), ((0,), (1, 0)))
        self.assertEqual(plain(kit, 1, ((0, 1), (0, 1, 0, 1))), ((), (0, 1)))

    def test_rings_gone_through_turned_about_and_partly_ahead(self):
        for kit in KITS + [PAIR] + small_kits()[::13]:
            for state in range(len(kit[1])):
                for address in all_addresses(kit, state, 3):
                    told = told_plain(kit, state, address)
                    ahead, ring = address
                    for often in (1, 2, 3):
                        for at in range(len(ring)):
                            other = (ahead + ring * (often - 1) + ring[:at], (ring[at:] + ring[:at]) * often)
                            self.assertEqual(plain(kit, state, other), told)
                    self.assertEqual(plain(kit, state, told), told)

    def test_it_is_an_address_of_the_same_point(self):
        for kit in KITS:
            for address in all_addresses(kit, 0, 4):
                told = plain(kit, 0, address)
                self.assertIs(is_address(kit, 0, told), True)
                self.assertEqual(point_of(kit, 0, told), point_of(kit, 0, address))
                self.all_tuples(told)

    def test_long_rings(self):
        ring = (0, 1, 1) * 1000
        self.assertEqual(plain(BLOCK, 0, ((1, 1) + ring, ring)), ((), (1, 1, 0)))
        self.assertEqual(plain(BLOCK, 0, ((), ring + (2,))), ((), ring + (2,)))


class ErrorsTest(Base):
    def calls(self):
        """Each function with its names, and right values behind kit and state."""
        return [
            (is_walk, ("kit", "state", "told"), (0,)), (is_address, ("kit", "state", "told"), ((), (0,))),
            (ends, ("kit", "state", "walk"), (0,)), (point_of, ("kit", "state", "address"), ((), (0,))),
            (plain, ("kit", "state", "address"), ((), (0,))), (walks, ("kit", "state", "n"), 2),
        ]

    def test_no_kit(self):
        for call, names, right in self.calls():
            for bad in NO_KITS:
                self.raises_both_ways(InvalidKit, bad, call, names, (bad, 0, right))
            # Ahead of a state and a last value that are wrong, too.
            self.raises_both_ways(InvalidKit, NO_KITS[0], call, names, (NO_KITS[0], -1, None))

    def test_no_state(self):
        for call, names, right in self.calls():
            for bad in NO_STATES:
                self.raises_both_ways(InvalidState, bad, call, names, (BLOCK, bad, right))
                self.raises_both_ways(InvalidState, bad, call, names, (BLOCK, bad, ((9,), ())))
            self.raises_both_ways(InvalidState, 4, call, names, (FOUR, 4, right))

    def test_no_walk(self):
        for bad in [(4,), (-1,), (0, 4), (3, -1, 0), (0, 0, 10 ** 30)] + NO_ROWS:
            self.raises_both_ways(InvalidWalk, bad, ends, ("kit", "state", "walk"), (BLOCK, 0, bad))

    def test_no_address(self):
        for call in (point_of, plain):
            for bad in [
                ((), ()), ((0,), ()), ((4,), (0,)), ((), (4,)), ((-1,), (0,)), ((), (-1,)), ((), (0, 4)),
                ((True,), (0,)),
                ((), (False,)), ((), (0,), ()), ((0,),), (), (0,), None, 0, [(), (0,)], ((), [0]), ([], (0,)),
            ]:
                self.raises_both_ways(InvalidAddress, bad, call, ("kit", "state", "address"), (BLOCK, 0, bad))
            self.raises_both_ways(InvalidAddress, ((), (0,)), call, ("kit", "state", "address"), (PAIR, 0, ((), (0,))))

    def test_no_power(self):
        for bad in [-1, -10 ** 30, True, False, None, (2,), "2"]:
            self.raises_both_ways(InvalidPower, bad, walks, ("kit", "state", "n"), (BLOCK, 0, bad))

    def test_arguments_are_as_they_were(self):
        kit = (TURN, ((((0, 0), 1), ((1, 0), 0)), (((0, 0), 0),)))
        walk, address = (1, 0, 0), ((1,), (0, 0))
        is_walk(kit, 0, walk), is_address(kit, 0, address), ends(kit, 0, walk), walks(kit, 0, 3)
        point_of(kit, 0, address), plain(kit, 0, address)
        self.assertEqual(kit, (((1, -1), (1, 1)), ((((0, 0), 1), ((1, 0), 0)), (((0, 0), 0),))))
        self.assertEqual((walk, address), ((1, 0, 0), ((1,), (0, 0))))

    def test_each_is_defined_in_addresses(self):
        for name in ("is_walk", "is_address", "ends", "point_of", "plain", "walks"):
            self.assertEqual(getattr(addresses, name).__module__, "selfkits.addresses")


if __name__ == "__main__":
    unittest.main()
