"""(O7) of [9], [55], [56], [57]: what bulk cases come to."""

import unittest

from allpieces.alone import alone_number
from allpieces.bulks import bulk_alone, bulks_short, bulks_sound
from allpieces.soundness import is_sound, lead_on
from tests.checks import Case, faults, own_faults
from tests.samples import (
    ANYTHING, FEW_BULKS, MANY, MUCH, Dice, can_be_done, drawn_bulks, expanded, sets_of, slow_slacks, times_as_great,
    wide_bulks,
)

BAD_BULKS = faults(
    'bulks', None, [*MANY], MANY[:2], (('a', 'b'), (('a', 'b', 1), ('a', 'b', 2)), ()), (('a', 'b'), (('a', 'b', 0),), ()),
    (('a',), (), ((('a',), True),)), (('b', 'a'), (), ()), (('a', 'b'), (), ((('b',), 1), (('a',), 1))),
)


def room_of(bulks, houses):
    """Return how many wires lead into the set, and how many pieces some house of it has, together."""
    _, wires, pieces = bulks
    into = sum(times for source, target, times in wires if source not in houses and target in houses)
    return into + sum(times for held, times in pieces if set(held) & set(houses))


def all_times(bulks):
    """Return how many pieces there are."""
    return sum(times for _, times in bulks[2])


class BulksTest(Case):

    def check(self, bulks):
        """Check all functions by all sets of houses, and return whether no set falls short."""
        rooms = {houses: room_of(bulks, houses) for houses in sets_of(bulks[0])}
        pieces = all_times(bulks)
        for house in bulks[0]:
            wanted = min(many for houses, many in rooms.items() if house in houses)
            self.same(bulk_alone(bulks, house), wanted)
        sound = min(rooms.values()) >= pieces
        self.same(bulks_sound(bulks), sound)
        houses = bulks_short(bulks)
        if sound:
            self.same(houses, None)
        else:
            self.assertIn(houses, list(sets_of(bulks[0])))
            self.assertLess(rooms[houses], pieces)
        return sound

    def test_examples(self):
        self.both_ways(10 ** 30 - 1, bulk_alone, bulks=MANY, house='c')
        self.both_ways(10 ** 30, bulk_alone, bulks=MANY, house='b')
        self.both_ways(False, bulks_sound, bulks=MANY)
        self.both_ways(('c',), bulks_short, bulks=MANY)

    def test_no_wires_and_no_pieces(self):
        self.same([bulk_alone((('a',), (), ()), 'a'), bulks_short((('a',), (), ()))], [0, None])
        self.same(bulk_alone((('a', 'b'), (('a', 'b', MUCH),), ()), 'b'), 0)
        self.same(bulks_sound((('a', 'b'), (('a', 'b', MUCH),), ())), True)
        lone = (('a', 'b'), (), ((('a',), MUCH), (('a', 'b'), 1)))
        self.same([bulk_alone(lone, 'a'), bulk_alone(lone, 'b')], [MUCH + 1, 1])
        self.same([bulks_sound(lone), bulks_short(lone)], [False, ('b',)])
        whole = (('a', 'b'), (), ((('a', 'b'), MUCH),))
        self.same([bulk_alone(whole, 'b'), bulks_sound(whole)], [MUCH, True])

    def test_times_of_one_and_of_sixty_digits(self):
        for times in (1, 2, MUCH):
            line = (('a', 'b', 'c'), (('a', 'b', times), ('b', 'c', 1)), ((('a',), times),))
            self.same([bulk_alone(line, house) for house in line[0]], [times, times, 1])
            self.same(bulks_sound(line), times == 1)
            self.same(bulks_short(line), None if times == 1 else ('c',))
        ring = (('a', 'b', 'c'), (('a', 'b', MUCH), ('b', 'c', MUCH), ('c', 'a', MUCH)), ((('a',), MUCH),))
        self.same(self.check(ring), True)
        self.same(self.check((ring[0], ring[1], ((('a',), MUCH), (('b',), 1)))), False)
        self.same(self.check((ring[0], ring[1], ((('a',), MUCH - 1), (('b',), 1)))), True)

    def test_great_and_small_times_together(self):
        # One wire more or less tells, among ever so many.
        for less in (0, 1):
            wires = (('a', 'b', MUCH), ('a', 'c', 1), ('b', 'c', MUCH - less), ('c', 'b', 1))
            bulks = (('a', 'b', 'c'), wires, ((('a',), MUCH + 1),))
            self.same(self.check(bulks), less == 0)
            self.same(bulk_alone(bulks, 'b'), MUCH + 1)
            self.same(bulk_alone(bulks, 'c'), MUCH + 1 - less)

    def test_nets_wire_by_wire(self):
        dice = Dice(3)
        few = [*FEW_BULKS, *[drawn_bulks(dice, 1 + turn % 4, 5, 3, 3) for turn in range(60)]]
        some = set()
        for bulks in few:
            net, holders = expanded(bulks)
            free = (-1,) * len(net[1])
            for house in net[0]:
                self.same(bulk_alone(bulks, house), alone_number(net, holders, free, house))
            self.same(bulks_sound(bulks), is_sound(net, holders, free))
            self.same(bulks_sound(bulks), lead_on(net, holders, free) is not None)
            some.add(self.check(bulks))
            if bulks_short(bulks) is not None:
                self.assertLess(slow_slacks(net, holders, free)[bulks_short(bulks)], 0)
        self.assertEqual(some, {True, False})

    def test_rows_of_next_givings(self):
        for bulks in FEW_BULKS:
            net, holders = expanded(bulks)
            self.same(bulks_sound(bulks), can_be_done(net, holders, (-1,) * len(net[1])))

    def test_up_to_the_limits(self):
        found = [self.check(bulks) for bulks in wide_bulks()]
        self.assertGreater(found.count(True), 20)
        self.assertGreater(found.count(False), 50)
        self.assertGreater(max(all_times(bulks) for bulks in wide_bulks()), 10 ** 59)

    def test_errors(self):
        houses = own_faults('house', 'd', None, ('a',), ['a'], True)
        self.first_error(bulk_alone, {'bulks': MANY, 'house': 'b'}, {'bulks': BAD_BULKS, 'house': houses})
        self.first_error(bulks_sound, {'bulks': MANY}, {'bulks': BAD_BULKS})
        self.first_error(bulks_short, {'bulks': MANY}, {'bulks': BAD_BULKS})
        for value in ANYTHING:
            if value != FEW_BULKS[0]:
                for call in (bulks_sound, bulks_short):
                    self.unusable('bulks', -1, call, value)
                self.unusable('bulks', -1, bulk_alone, value, value)
            if value not in MANY[0]:
                self.unusable('house', value, bulk_alone, MANY, value)


class BulksConsequencesTest(Case):

    def test_sound_exactly_if_each_house_can_come_to_all(self):
        for bulks in (*FEW_BULKS, *wide_bulks()):
            numbers = [bulk_alone(bulks, house) for house in bulks[0]]
            self.assertTrue(all(number <= all_times(bulks) for number in numbers))
            self.same(bulks_sound(bulks), set(numbers) == {all_times(bulks)})
            self.same(bulks_sound(bulks), bulks_short(bulks) is None)

    def test_all_times_as_great(self):
        for bulks in (MANY, *FEW_BULKS, *wide_bulks()):
            for many in (2, 3, 10 ** 20):
                great = times_as_great(bulks, many)
                for house in bulks[0]:
                    self.same(bulk_alone(great, house), many * bulk_alone(bulks, house))
                self.same(bulks_sound(great), bulks_sound(bulks))


if __name__ == '__main__':
    unittest.main()
