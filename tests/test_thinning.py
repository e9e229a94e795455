"""[27], [28], [29]: thinned givings, and roads."""

import unittest
from itertools import combinations

from allpieces.comings import having, idle_wires
from allpieces.givingchecker import lets_giving
from allpieces.thinning import road_of, thinned
from tests.checks import BAD_GIVINGS, BAD_HOLDERS, BAD_HOUSE, BAD_NETS, BAD_PIECE, Case
from tests.samples import (
    ANYTHING, APART, EQUAL, FIRST, FREE, HOLDERS, NET, ONE, ONE_HOUSE, VAIN, cases, slow_having, small_cases, wide_cases,
)

ROUND = (('a', 'b', 'c'), (('b', 'c'), ('c', 'b'), ('a', 'b'), ('b', 'a'), ('c', 'a'), ('a', 'b')))


def slow_fewest(net, holders, giving):
    """Return how few of the wires of a giving can be given the same pieces, and all have what they have."""
    found = slow_having(net, holders, giving)
    given = [wire for wire, piece in enumerate(giving) if piece != -1]
    for many in range(len(given) + 1):
        for kept in combinations(given, many):
            less = [piece if wire in kept else -1 for wire, piece in enumerate(giving)]
            if slow_having(net, holders, less) == found:
                return many


class ThinnedTest(Case):

    def test_examples(self):
        once = thinned(NET, HOLDERS, VAIN)
        self.same(having(NET, HOLDERS, once), having(NET, HOLDERS, VAIN))
        self.same(once.count(-1), 2)
        self.same(idle_wires(NET, HOLDERS, once), ())
        self.both_ways((0, 1, 0, 1), thinned, net=NET, holders=HOLDERS, giving=(0, 1, 0, 1))

    def test_many_wires_in_vain(self):
        self.same(thinned(EQUAL, (('a',), ('b',)), (0, 0, 1, 0)).count(0), 1)
        self.same(thinned(EQUAL, (('a', 'b'),), (0, 0, 0, 0)), (-1, -1, -1, -1))
        self.same(thinned(NET, (('a', 'b', 'c'),), VAIN), FREE)

    def test_circles_that_feed_themselves(self):
        for giving in ((0,) * 6, (0, 0, 0, 0, 0, -1), (0, 0, -1, -1, 0, 0)):
            late = thinned(ROUND, ONE, giving)
            self.same(having(ROUND, ONE, late), (('a', 'b', 'c'),))
            self.same(lets_giving(ROUND, ONE, late), 2)
            self.same((late[0], late[1], late[3], late[4]), (0, -1, -1, -1))

    def test_a_circle_beside_another_piece(self):
        late = thinned(ROUND, (('a',), ('c',)), (0, 1, 0, 0, 1, 0))
        self.same((late[0], late[1], late[3], late[4]), (0, 1, -1, 1))
        self.same(sorted([late[2], late[5]]), [-1, 0])

    def test_nothing_to_thin(self):
        self.same(thinned(NET, (), FREE), FREE)
        self.same(thinned(APART, ONE, ()), ())
        self.same(thinned(ONE_HOUSE, (), ()), ())
        self.same(thinned(NET, HOLDERS, FREE), FREE)

    def test_as_few_as_can_be(self):
        for net, holders, giving in small_cases():
            late = thinned(net, holders, giving)
            self.assertIsInstance(late, tuple)
            self.same(slow_having(net, holders, late) == slow_having(net, holders, giving), True)
            self.assertTrue(all(new in (-1, old) for new, old in zip(late, giving)))
            self.same(lets_giving(net, holders, late), slow_fewest(net, holders, giving))

    def test_consequences(self):
        for net, holders, giving in (*small_cases(), *wide_cases()):
            late = thinned(net, holders, giving)
            more = [len(houses) - len(held) for houses, held in zip(having(net, holders, giving), holders)]
            self.same(lets_giving(net, holders, late), sum(more))
            self.same(late == giving, idle_wires(net, holders, giving) == ())
            self.same(idle_wires(net, holders, late), ())
            self.same(thinned(net, holders, late), late)

    def test_errors(self):
        usable = {'net': NET, 'holders': HOLDERS, 'giving': FIRST}
        self.first_error(thinned, usable, {'net': BAD_NETS, 'holders': BAD_HOLDERS, 'giving': BAD_GIVINGS})
        for value in ANYTHING:
            if value != FREE:
                self.unusable('giving', -1, thinned, NET, HOLDERS, value)


class RoadTest(Case):

    def check_road(self, net, holders, giving, house, piece):
        """Check a road against what slow_having says."""
        road = road_of(net, holders, giving, house, piece)
        if house in holders[piece]:
            self.same(road, ())
        elif house not in slow_having(net, holders, giving)[piece]:
            self.same(road, None)
        else:
            self.assertIsInstance(road, tuple)
            self.assertEqual(len(set(road)), len(road))
            ends = [net[1][wire] for wire in road]
            self.assertIn(ends[0][0], holders[piece])
            self.assertEqual(ends[-1][1], house)
            self.assertTrue(all(one[1] == two[0] for one, two in zip(ends, ends[1:])))
            self.assertTrue(all(giving[wire] == piece for wire in road))
        return road

    def test_examples(self):
        named = {'net': NET, 'holders': HOLDERS}
        self.both_ways((0, 2), road_of, **named, giving=(0, 1, 0, 1), house='c', piece=0)
        self.both_ways((1, 3), road_of, **named, giving=(0, 1, 0, 1), house='b', piece=1)
        self.both_ways((), road_of, **named, giving=FIRST, house='a', piece=1)
        self.both_ways(None, road_of, **named, giving=FIRST, house='c', piece=0)
        self.unusable('piece', 2, road_of, NET, HOLDERS, FIRST, 'c', 2)

    def test_a_long_road_against_the_numbers(self):
        houses = ('a', 'b', 'c', 'd', 'e', 'f')
        net = (houses, (('e', 'f'), ('d', 'e'), ('c', 'd'), ('b', 'c'), ('a', 'b')))
        self.same(road_of(net, ONE, (0, 0, 0, 0, 0), 'f', 0), (4, 3, 2, 1, 0))
        self.same(road_of(net, ONE, (-1, 0, 0, 0, 0), 'f', 0), None)

    def test_a_holder_has_the_empty_road_though_wires_lead_to_it(self):
        self.same(road_of(ROUND, ONE, (0,) * 6, 'a', 0), ())
        self.same(road_of(EQUAL, (('a', 'b'),), (0, 0, 0, 0), 'b', 0), ())

    def test_all_roads(self):
        for net, holders, giving in (*small_cases(), *wide_cases()):
            for house in net[0]:
                for piece in range(len(holders)):
                    self.check_road(net, holders, giving, house, piece)

    def test_consequences(self):
        for net, holders, giving in cases():
            found = having(net, holders, giving)
            for piece in range(len(holders)):
                for house in found[piece]:
                    road = road_of(net, holders, giving, house, piece)
                    self.assertTrue(all(net[1][wire][1] in found[piece] for wire in road))
                    alone = tuple(piece if wire in road else -1 for wire in range(len(giving)))
                    self.assertIn(house, having(net, holders, alone)[piece])

    def test_just_one_road_in_a_thinned_giving(self):
        for net, holders, giving in cases():
            late = thinned(net, holders, giving)
            for piece in range(len(holders)):
                led = [net[1][wire][1] for wire, given in enumerate(late) if given == piece]
                self.assertEqual(len(set(led)), len(led))
                self.assertFalse(set(led) & set(holders[piece]))

    def test_errors(self):
        usable = {'net': NET, 'holders': HOLDERS, 'giving': FIRST, 'house': 'a', 'piece': 0}
        self.first_error(road_of, usable, {
            'net': BAD_NETS[:2], 'holders': BAD_HOLDERS[:2], 'giving': BAD_GIVINGS[:2],
            'house': BAD_HOUSE, 'piece': BAD_PIECE,
        })
        for value in ANYTHING:
            if value not in NET[0]:
                self.unusable('house', value, road_of, NET, HOLDERS, FIRST, value, None)
            if repr(value) not in ('0', '1'):
                self.unusable('piece', value, road_of, NET, HOLDERS, FIRST, 'b', value)


if __name__ == '__main__':
    unittest.main()
