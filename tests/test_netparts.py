"""[13], and the first sentence of [21]: the wires at a set of houses."""

import unittest

from allpieces.netparts import between, into_of, out_of
from tests.checks import BAD_HOUSE, BAD_HOUSES, BAD_NETS, Case, own_faults
from tests.samples import ANYTHING, APART, CASES, EQUAL, NET, ONE_HOUSE, sets_of


class NetPartsTest(Case):

    def test_example(self):
        self.both_ways((0, 1), into_of, net=NET, houses=('b', 'c'))
        self.both_ways((2,), out_of, net=NET, houses=('b',))
        self.both_ways((2,), between, net=NET, source='b', target='c')
        self.both_ways((), between, net=NET, source='c', target='a')

    def test_no_wires(self):
        for function in (into_of, out_of):
            self.same(function(ONE_HOUSE, ('a',)), ())
            self.same(function(APART, ('a', 'b')), ())
        self.same(between(ONE_HOUSE, 'a', 'a'), ())

    def test_all_houses(self):
        for net, _ in CASES:
            self.same(into_of(net, net[0]), ())
            self.same(out_of(net, net[0]), ())

    def test_equal_wires(self):
        self.same(into_of(EQUAL, ('b',)), (0, 1, 3))
        self.same(out_of(EQUAL, ('b',)), (2,))
        self.same(between(EQUAL, 'a', 'b'), (0, 1, 3))
        self.same(between(EQUAL, 'b', 'a'), (2,))
        self.same(between(EQUAL, 'b', 'b'), ())

    def test_plain_answers(self):
        for net, _ in CASES:
            for houses in sets_of(net[0]):
                inside = set(houses)
                led = [wire for wire, (u, v) in enumerate(net[1]) if v in inside and u not in inside]
                self.same(into_of(net, houses), tuple(led))
                led = [wire for wire, (u, v) in enumerate(net[1]) if u in inside and v not in inside]
                self.same(out_of(net, houses), tuple(led))
            for u in net[0]:
                for v in net[0]:
                    self.same(between(net, u, v), tuple(k for k, wire in enumerate(net[1]) if wire == (u, v)))

    def test_out_is_into_the_others(self):
        for net, _ in CASES:
            for houses in sets_of(net[0]):
                others = tuple(house for house in net[0] if house not in houses)
                if others:
                    self.same(out_of(net, houses), into_of(net, others))
                    self.same(into_of(net, houses), out_of(net, others))

    def test_errors(self):
        for function in (into_of, out_of):
            self.first_error(function, {'net': NET, 'houses': ('a',)}, {'net': BAD_NETS, 'houses': BAD_HOUSES})
        usable = {'net': NET, 'source': 'a', 'target': 'b'}
        others = own_faults('house', 'abcdefghi', 0, [], ('a', 'b'))
        self.first_error(between, usable, {'net': BAD_NETS, 'source': BAD_HOUSE, 'target': others})

    def test_houses_may_be_any_value(self):
        for value in ANYTHING:
            if value in list(sets_of(NET[0])):
                continue
            self.unusable('houses', -1, into_of, NET, value)
            self.unusable('houses', -1, out_of, NET, value)
            if value not in NET[0]:
                self.unusable('house', value, between, NET, value, value)
                self.unusable('house', value, between, NET, 'a', value)

    def test_the_very_house_is_kept(self):
        house = ['a']
        self.assertIs(self.unusable('house', house, between, NET, house, 'a').at, house)


if __name__ == '__main__':
    unittest.main()
