"""[22], [23], [24]: who has what."""

import unittest

from allpieces.comings import having, idle_wires, lacking, serves
from tests.checks import BAD_GIVINGS, BAD_HOLDERS, BAD_NETS, Case
from tests.samples import (
    ANYTHING, APART, EQUAL, FIRST, FREE, HOLDERS, NET, ONE_HOUSE, VAIN, cases, slow_having,
)

FUNCTIONS = (having, lacking, serves, idle_wires)


class ComingsTest(Case):

    def test_examples(self):
        self.both_ways((('a', 'b'), ('a',)), having, net=NET, holders=HOLDERS, giving=FIRST)
        self.both_ways((('b', 1), ('c', 0), ('c', 1)), lacking, net=NET, holders=HOLDERS, giving=FIRST)
        self.both_ways(False, serves, net=NET, holders=HOLDERS, giving=FIRST)
        self.both_ways(True, serves, net=NET, holders=HOLDERS, giving=(0, 1, 0, 1))

    def test_idle_examples(self):
        self.same(having(NET, HOLDERS, VAIN), (('a', 'b', 'c'), ('a',)))
        self.both_ways((0, 1, 2, 3), idle_wires, net=NET, holders=HOLDERS, giving=VAIN)
        self.same(idle_wires(NET, HOLDERS, (0, 0, 0, -1)), (1, 2))
        self.same(idle_wires(NET, HOLDERS, FIRST), ())

    def test_no_pieces(self):
        self.same(having(NET, (), FREE), ())
        self.same(lacking(NET, (), FREE), ())
        self.same(serves(NET, (), FREE), True)
        self.same(idle_wires(NET, (), FREE), ())

    def test_no_wires(self):
        self.same(having(APART, (('b',),), ()), (('b',),))
        self.same(lacking(APART, (('b',), ('a', 'b')), ()), (('a', 0), ('c', 0), ('c', 1)))
        self.same(serves(APART, (('b',),), ()), False)
        self.same(serves(APART, (('a', 'b', 'c'),), ()), True)
        self.same(idle_wires(APART, (('b',),), ()), ())

    def test_one_house(self):
        self.same(having(ONE_HOUSE, (('a',), ('a',)), ()), (('a',), ('a',)))
        self.same(serves(ONE_HOUSE, (('a',),), ()), True)

    def test_equal_wires(self):
        self.same(idle_wires(EQUAL, (('a',),), (0, 0, -1, 0)), (0, 1, 3))
        self.same(idle_wires(EQUAL, (('a',),), (0, -1, 0, -1)), (2,))
        self.same(idle_wires(EQUAL, (('a',), ('b',)), (0, 0, 1, -1)), (0, 1))

    def test_a_wire_that_leads_to_a_holder_is_idle(self):
        self.same(idle_wires(NET, (('a', 'b'),), FIRST), (0,))

    def test_a_wire_ahead_of_others_is_not_idle(self):
        self.same(idle_wires(NET, HOLDERS, (0, -1, 0, -1)), ())

    def test_plain_answers(self):
        for net, holders, giving in cases():
            found = slow_having(net, holders, giving)
            self.same(having(net, holders, giving), tuple(tuple(sorted(houses)) for houses in found))
            pairs = [(house, piece) for piece, houses in enumerate(found) for house in net[0] if house not in houses]
            self.same(lacking(net, holders, giving), tuple(sorted(pairs)))
            self.same(serves(net, holders, giving), not pairs)

    def test_plain_answers_of_idle_wires(self):
        for net, holders, giving in cases():
            found = slow_having(net, holders, giving)
            wanted = []
            for wire, piece in enumerate(giving):
                less = (*giving[:wire], -1, *giving[wire + 1:])
                if piece != -1 and slow_having(net, holders, less) == found:
                    wanted.append(wire)
            self.same(idle_wires(net, holders, giving), tuple(wanted))

    def test_errors(self):
        usable = {'net': NET, 'holders': HOLDERS, 'giving': FIRST}
        wrong = {'net': BAD_NETS, 'holders': BAD_HOLDERS, 'giving': BAD_GIVINGS}
        for function in FUNCTIONS:
            self.first_error(function, usable, wrong)

    def test_any_value(self):
        nets = (NET, (('a', 'b'), ()), (('a', 'b'), (('a', 'b'),)))
        for function in FUNCTIONS:
            for value in ANYTHING:
                self.unusable('holders' if value in nets else 'net', -1, function, value, value, value)
                if value != FREE:
                    self.unusable('giving', -1, function, NET, HOLDERS, value)


if __name__ == '__main__':
    unittest.main()
