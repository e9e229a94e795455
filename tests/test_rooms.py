"""(O6) of [9], [53], and what [54] says of room_for."""

import unittest

from allpieces.gives import after_give
from allpieces.guarding import let_givings
from allpieces.losses import after_loss
from allpieces.rooms import room_for
from allpieces.soundness import is_sound
from allpieces.tight import needed_wires
from tests.checks import BAD_GIVINGS, BAD_HOLDERS, BAD_HOUSES, BAD_NETS, Case, faults
from tests.samples import (
    ANYTHING, APART, EQUAL, FIRST, FREE, GREAT, GREAT_HOLDERS, HOLDERS, NARROW, NET, ONE, ONE_HOUSE, SIDES, TWINS,
    VAIN, can_be_done, sets_of, slow_slacks, slow_sound, small_cases, sound_cases, wide_cases,
)

UNSOUND = faults('sound', (0, 0, -1, -1), VAIN)


def least_slack(net, holders, giving, houses):
    """Return the least slack of the sets that have none of the houses, None if there are none."""
    slacks = [
        slack for each, slack in slow_slacks(net, holders, giving).items() if not set(each) & set(houses)
    ]
    return min(slacks, default=None)


class RoomTest(Case):

    def check(self, net, holders, giving):
        """Check room_for by all sets of houses, and return how much room there is for each."""
        rooms = {}
        for houses in sets_of(net[0]):
            rooms[houses] = least_slack(net, holders, giving, houses)
            self.same(room_for(net, holders, giving, houses), rooms[houses])
            self.same(rooms[houses] is None, houses == net[0])
        return rooms

    def test_examples(self):
        for houses, wanted in ((('a',), 0), (('a', 'b'), 1), (('b',), 0), (('a', 'b', 'c'), None)):
            self.both_ways(wanted, room_for, net=NARROW, holders=ONE, giving=FREE, houses=houses)

    def test_all_houses(self):
        for net, holders, giving in ((NET, HOLDERS, FREE), (NET, (), FREE), (ONE_HOUSE, (), ()), (ONE_HOUSE, ONE, ()),
                                     (APART, (), ()), (NET, HOLDERS, (0, 1, 0, 1))):
            self.both_ways(None, room_for, net=net, holders=holders, giving=giving, houses=net[0])

    def test_one_house_alone(self):
        self.same([room_for(NET, HOLDERS, FREE, (house,)) for house in NET[0]], [0, 0, 0])
        self.same([room_for(NET, ONE, FREE, (house,)) for house in NET[0]], [1, 0, 0])
        self.same([room_for(NET, (), FREE, (house,)) for house in NET[0]], [2, 0, 0])
        self.same([room_for(EQUAL, (), FREE, (house,)) for house in EQUAL[0]], [3, 1])
        self.same([room_for(EQUAL, (('a',), ('b',)), FREE, (house,)) for house in EQUAL[0]], [2, 0])

    def test_much_room(self):
        for many in (1, 3, 10, 16):
            net, free = (('a', 'b'), (('a', 'b'),) * many), (-1,) * many
            self.same(self.check(net, (), free), {('a',): many, ('b',): 0, ('a', 'b'): None})
            self.same(room_for(net, (('a', 'b'),) * 3, free, ('a',)), many)
            self.same(room_for(net, (('a',), ('a', 'b'), ('a', 'b')), free, ('a',)), many - 1)

    def test_nothing_lacked(self):
        self.same(self.check(NET, HOLDERS, (0, 1, 0, 1)), {
            houses: None if houses == NET[0] else 0 for houses in sets_of(NET[0])
        })
        net = (('a', 'b'), (('a', 'b'),) * 5)
        self.same(self.check(net, ONE, (-1, 0, -1, -1, -1)), {('a',): 4, ('b',): 0, ('a', 'b'): None})

    def test_so_many_pieces_more(self):
        found = set()
        for net, holders, giving in sound_cases(small_cases()):
            for houses, most in self.check(net, holders, giving).items():
                found.add(most)
                for many in range(4 if most is None else most + 1):
                    self.assertTrue(slow_sound(net, (*holders, *(houses,) * many), giving))
                if most is not None:
                    self.assertFalse(slow_sound(net, (*holders, *(houses,) * (most + 1)), giving))
        self.assertLess({None, 0, 1, 2}, found)

    def test_rows_of_next_givings(self):
        for net, holders, giving in [*sound_cases(small_cases())][::5]:
            for houses in sets_of(net[0]):
                most = room_for(net, holders, giving, houses)
                if most is not None and most < 2:
                    self.same(can_be_done(net, (*holders, *(houses,) * most), giving), True)
                    self.same(can_be_done(net, (*holders, *(houses,) * (most + 1)), giving), False)

    def test_wide_nets(self):
        found = set()
        for net, holders, giving in sound_cases(wide_cases()):
            found |= set(self.check(net, holders, giving).values())
        self.assertLess({None, 0, 1, 2, 3}, found)

    def test_the_greatest_net(self):
        self.check(GREAT, GREAT_HOLDERS, (-1,) * 16)
        net = (('a', 'b'), (('a', 'b'),) * 16)
        self.same(room_for(net, (('a',),) * 4, (-1,) * 16, ('a',)), 12)

    def test_errors(self):
        usable = {'net': NET, 'holders': HOLDERS, 'giving': FIRST, 'houses': ('a', 'b')}
        wrong = {'net': BAD_NETS, 'holders': BAD_HOLDERS, 'giving': BAD_GIVINGS + UNSOUND, 'houses': BAD_HOUSES}
        self.first_error(room_for, usable, wrong)
        self.unusable('sound', -1, room_for, TWINS, SIDES, FREE, ('a',))
        self.unusable('sound', -1, room_for, TWINS, SIDES, FREE, None)

    def test_what_is_no_set_of_houses(self):
        for value in ANYTHING:
            if value not in list(sets_of(NET[0])):
                self.unusable('houses', -1, room_for, NET, HOLDERS, FIRST, value)

    def test_for_sound_givings_only(self):
        for net, holders, giving in (*small_cases(), *wide_cases()):
            if not slow_sound(net, holders, giving):
                self.unusable('sound', -1, room_for, net, holders, giving, net[0])


class RoomConsequencesTest(Case):

    def test_it_never_grows(self):
        for net, holders, giving in [*sound_cases(small_cases())][::3]:
            needed = needed_wires(net, holders, giving)
            lates = [(net, holders, after_give(net, holders, giving, *pair)) for pair in let_givings(net, holders, giving)]
            lates += [
                after_loss(net, holders, giving, (wire,)) for wire, piece in enumerate(giving)
                if piece == -1 and wire not in needed
            ]
            for late in lates:
                self.assertTrue(is_sound(*late))
                for houses in sets_of(net[0]):
                    most = room_for(net, holders, giving, houses)
                    if houses != net[0]:
                        self.assertIn(most - room_for(*late, houses), (0, 1))
                    else:
                        self.same(room_for(*late, houses), None)


if __name__ == '__main__':
    unittest.main()
