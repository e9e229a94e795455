"""(O3) of [9], [8], [35], [37]: what a house can come to for itself alone."""

import unittest

from allpieces.alone import alone_number, alone_ways
from allpieces.comings import having
from allpieces.gives import after_give, next_givings
from tests.checks import BAD_GIVINGS, BAD_HOLDERS, BAD_HOUSE, BAD_NETS, Case
from tests.samples import (
    ANYTHING, APART, CROSS, ENDS, EQUAL, FIRST, FREE, HOLDERS, NET, NONE, ONE_HOUSE, VAIN, cases, sets_of, slow_having,
    slow_slack, small_cases, wide_cases,
)

SPENT = (0, 0, -1, -1)


def ways_from(net, free, place, house):
    """Yield each way from the place to the house over wires of the list, none twice, that ends when it is there."""
    for wire in free:
        source, target = net[1][wire]
        if source == place and target == house:
            yield (wire,)
        elif source == place:
            for rest in ways_from(net, [other for other in free if other != wire], target, house):
                yield (wire, *rest)


def slow_number(net, found, free, house, pieces):
    """Return how many of the pieces can be brought to the house over these wires, by trying all."""
    if not pieces:
        return 0
    best = slow_number(net, found, free, house, pieces[1:])
    for place in found[pieces[0]]:
        for way in ways_from(net, free, place, house):
            if best < len(pieces):
                left = [wire for wire in free if wire not in way]
                best = max(best, 1 + slow_number(net, found, left, house, pieces[1:]))
    return best


class AloneTest(Case):

    def check_ways(self, net, holders, giving, house):
        """Check alone_ways by what it has to be, and return it."""
        ways = alone_ways(net, holders, giving, house)
        found = slow_having(net, holders, giving)
        self.assertIsInstance(ways, tuple)
        used = []
        for pair in ways:
            self.assertIsInstance(pair, tuple)
            piece, way = pair
            self.assertIsInstance(way, tuple)
            self.assertNotIn(house, found[piece])
            ends = [net[1][wire] for wire in way]
            self.assertIn(ends[0][0], found[piece])
            self.assertEqual(ends[-1][1], house)
            self.assertTrue(all(one[1] == two[0] for one, two in zip(ends, ends[1:])))
            self.assertTrue(all(giving[wire] == -1 for wire in way))
            used += way
        pieces = [piece for piece, _ in ways]
        self.assertEqual(pieces, sorted(set(pieces)))
        self.assertEqual(len(set(used)), len(used))
        has = sum(house in owners for owners in found)
        self.same(alone_number(net, holders, giving, house), has + len(ways))
        return ways

    def test_examples(self):
        named = {'net': NET, 'holders': HOLDERS}
        self.both_ways(2, alone_number, **named, giving=FIRST, house='b')
        self.both_ways(((1, (1, 3)),), alone_ways, **named, giving=FIRST, house='b')
        self.both_ways(1, alone_number, **named, giving=SPENT, house='c')
        self.both_ways((), alone_ways, **named, giving=FREE, house='a')
        self.unusable('house', 'd', alone_number, NET, HOLDERS, FREE, 'd')

    def test_ways_that_cross(self):
        self.both_ways(((0, (1, 4)), (1, (2, 3))), alone_ways, net=CROSS, holders=ENDS, giving=NONE, house='t')
        self.same(alone_number(CROSS, ENDS, NONE, 'y'), 1)
        self.same(alone_number(CROSS, ENDS, NONE, 't'), 2)

    def test_a_way_that_is_taken_back_whatever_the_order(self):
        # Just one of the two pieces can take the short way, whichever is tried first.
        for wires in (CROSS[1], CROSS[1][::-1]):
            for holders in (ENDS, ENDS[::-1]):
                ways = self.check_ways((CROSS[0], wires), holders, NONE, 't')
                self.same(sorted(len(way) for _, way in ways), [2, 2])

    def test_another_holder_is_taken(self):
        # Piece 0 could come from a or from b, piece 1 just from a, and one wire leads out of each.
        net = (('a', 'b', 'c'), (('a', 'c'), ('b', 'c')))
        self.same(alone_ways(net, (('a', 'b'), ('a',)), (-1, -1), 'c'), ((0, (1,)), (1, (0,))))
        self.same(alone_ways(net, (('a',), ('a', 'b')), (-1, -1), 'c'), ((0, (0,)), (1, (1,))))

    def test_long_ways(self):
        houses = ('a', 'b', 'c', 'd', 'e', 'f')
        line = tuple(zip(houses, houses[1:]))
        self.same(alone_ways((houses, line), (('a',),), (-1,) * 5, 'f'), ((0, (0, 1, 2, 3, 4)),))
        double = (houses, line * 2)
        self.same(alone_number(double, (('a',), ('a', 'c'), ('b',)), (-1,) * 10, 'f'), 2)
        self.check_ways(double, (('a',), ('a',), ('a',)), (-1,) * 10, 'f')

    def test_a_wire_that_is_given_something_is_no_way(self):
        self.same(alone_ways(NET, HOLDERS, VAIN, 'b'), ())
        self.same(alone_number(NET, HOLDERS, VAIN, 'b'), 1)

    def test_ways_begin_where_the_piece_came_to(self):
        self.same(alone_ways(NET, HOLDERS, (0, -1, -1, -1), 'c'), self.check_ways(NET, HOLDERS, FIRST, 'c'))
        self.same(alone_ways((('a', 'b', 'c'), (('a', 'b'), ('b', 'c'))), (('a',),), (0, -1), 'c'), ((0, (1,)),))

    def test_equal_wires(self):
        self.same(alone_number(EQUAL, (('a',), ('a',), ('a',)), FREE, 'b'), 3)
        self.same(alone_number(EQUAL, (('a',),) * 4, FREE, 'b'), 3)
        self.same([len(way) for _, way in self.check_ways(EQUAL, (('a',),) * 4, FREE, 'b')], [1, 1, 1])

    def test_no_pieces_and_no_wires(self):
        self.same(alone_number(NET, (), FREE, 'a'), 0)
        self.same(alone_ways(NET, (), FREE, 'a'), ())
        self.same(alone_number(APART, ENDS, (), 'c'), 0)
        self.same(alone_number(APART, ENDS, (), 'b'), 1)
        self.same(alone_number(ONE_HOUSE, (('a',), ('a',)), (), 'a'), 2)

    def test_ways(self):
        for net, holders, giving in (*small_cases(), *wide_cases()):
            for house in net[0]:
                self.check_ways(net, holders, giving, house)

    def test_as_many_as_there_can_be(self):
        for net, holders, giving in small_cases():
            found = slow_having(net, holders, giving)
            free = [wire for wire, piece in enumerate(giving) if piece == -1]
            for house in net[0]:
                short = [piece for piece, owners in enumerate(found) if house not in owners]
                best = slow_number(net, found, free, house, short)
                self.same(alone_number(net, holders, giving, house), len(holders) - len(short) + best)

    def test_the_least_sets(self):
        for net, holders, giving in (*small_cases(), *wide_cases()):
            for house in net[0]:
                slacks = [slow_slack(net, holders, giving, some) for some in sets_of(net[0]) if house in some]
                self.same(alone_number(net, holders, giving, house), len(holders) + min(slacks))

    def test_errors(self):
        usable = {'net': NET, 'holders': HOLDERS, 'giving': FIRST, 'house': 'b'}
        wrong = {'net': BAD_NETS, 'holders': BAD_HOLDERS, 'giving': BAD_GIVINGS, 'house': BAD_HOUSE}
        for function in (alone_number, alone_ways):
            self.first_error(function, usable, wrong)
            for value in ANYTHING:
                if value not in NET[0]:
                    self.unusable('house', value, function, NET, HOLDERS, FIRST, value)


class AloneConsequencesTest(Case):

    def test_bounds(self):
        for net, holders, giving in cases():
            found = having(net, holders, giving)
            for house in net[0]:
                number = alone_number(net, holders, giving, house)
                self.assertLessEqual(number, len(holders))
                self.assertGreaterEqual(number, sum(house in owners for owners in found))

    def test_a_next_giving_changes_it_by_0_or_1(self):
        fallen = 0
        for net, holders, giving in cases():
            for pair in next_givings(net, holders, giving):
                late = after_give(net, holders, giving, *pair)
                for house in net[0]:
                    less = alone_number(net, holders, late, house) - alone_number(net, holders, giving, house)
                    self.assertIn(less, (0, -1))
                    fallen += less
        self.assertLess(fallen, 0)


if __name__ == '__main__':
    unittest.main()
