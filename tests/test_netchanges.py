"""[16]: nets and holders with something more, something less, or other names."""

import unittest

from allpieces.netchanges import laid, renamed, renamed_holders, with_house, with_wire, without_wire
from allpieces.netchecker import lets_net
from tests.checks import (
    BAD_HOLDERS, BAD_HOUSE, BAD_NETS, BAD_PIECE, BAD_WIRE, Case, own_faults,
)
from tests.samples import ANYTHING, APART, CASES, EQUAL, HOLDERS, NET, ONE_HOUSE

WIRES = NET[1]


class WireTest(Case):

    def test_examples(self):
        self.same(with_wire(NET, 'b', 'a')[1][4:], (('b', 'a'),))
        self.same(without_wire(NET, 0)[1][0], ('a', 'c'))

    def test_with_wire(self):
        self.both_ways((NET[0], (*WIRES, ('b', 'a'))), with_wire, net=NET, source='b', target='a')
        self.same(with_wire(NET, 'a', 'b'), (NET[0], (*WIRES, ('a', 'b'))))
        self.same(with_wire(APART, 'c', 'a'), (APART[0], (('c', 'a'),)))

    def test_with_wire_errors(self):
        usable = {'net': NET, 'source': 'a', 'target': 'b'}
        targets = [*own_faults('house', 'e', 0, ('b',)), ('a', 'target', -1)]
        self.first_error(with_wire, usable, {'net': BAD_NETS, 'source': BAD_HOUSE, 'target': targets})
        self.unusable('target', -1, with_wire, ONE_HOUSE, 'a', 'a')

    def test_without_wire(self):
        self.both_ways((NET[0], (WIRES[0], *WIRES[2:])), without_wire, net=NET, wire=1)
        self.same(without_wire(NET, 3), (NET[0], WIRES[:3]))
        self.same(without_wire(EQUAL, 1), (EQUAL[0], (('a', 'b'), ('b', 'a'), ('a', 'b'))))
        for net, _ in CASES:
            for wire in range(len(net[1])):
                self.same(without_wire(net, wire), (net[0], net[1][:wire] + net[1][wire + 1:]))

    def test_without_wire_errors(self):
        self.first_error(without_wire, {'net': NET, 'wire': 0}, {'net': BAD_NETS, 'wire': BAD_WIRE})
        self.unusable('wire', 0, without_wire, APART, 0)
        self.unusable('wire', 10 ** 59, without_wire, NET, 10 ** 59)


class HouseTest(Case):

    def test_with_house(self):
        self.both_ways((('a', 'aa', 'b', 'c'), WIRES), with_house, net=NET, name='aa')
        self.same(with_house(NET, 'z'), (('a', 'b', 'c', 'z'), WIRES))
        self.same(with_house((('b',), ()), 'a'), (('a', 'b'), ()))

    def test_with_house_errors(self):
        names = own_faults('name', 'a', 'c', '', 'A', 'abcdefghi', 'd\n', None, 0, ('d',), ['d'])
        self.first_error(with_house, {'net': NET, 'name': 'd'}, {'net': BAD_NETS, 'name': names})

    def test_laid(self):
        self.both_ways((('a',), ('a', 'c')), laid, net=NET, holders=HOLDERS, piece=1, house='c')
        self.same(laid(NET, (('b', 'c'), ('c',)), 0, 'a'), (('a', 'b', 'c'), ('c',)))
        self.same(laid(NET, (('a', 'c'), ('c',), ('b',)), 0, 'b'), (('a', 'b', 'c'), ('c',), ('b',)))

    def test_laid_errors(self):
        usable = {'net': NET, 'holders': HOLDERS, 'piece': 0, 'house': 'b'}
        houses = [*BAD_HOUSE, ('a', 'house', 'a')]
        wrong = {'net': BAD_NETS, 'holders': BAD_HOLDERS, 'piece': BAD_PIECE, 'house': houses}
        self.first_error(laid, usable, wrong)
        self.unusable('piece', 0, laid, NET, (), 0, 'a')


class RenamingTest(Case):

    def test_examples(self):
        wanted = (('b', 'c', 'z'), (('z', 'b'), ('z', 'c'), ('b', 'c'), ('c', 'b')))
        self.same(renamed(NET, ('a', 'z')), wanted)
        self.same(renamed_holders(NET, (('a', 'b'),), ('a', 'z')), (('b', 'z'),))
        self.unusable('names', -1, renamed, NET, ('a', 'b'))

    def test_no_pairs(self):
        self.same(renamed(NET), NET)
        self.same(renamed(net=NET), NET)
        self.same(renamed_holders(NET, HOLDERS), HOLDERS)
        self.same(renamed_holders(net=NET, holders=HOLDERS), HOLDERS)

    def test_swapped(self):
        wanted = (('a', 'b', 'c'), (('b', 'a'), ('b', 'c'), ('a', 'c'), ('c', 'a')))
        self.same(renamed(NET, ('a', 'b'), ('b', 'a')), wanted)
        self.same(renamed_holders(NET, (('a',), ('b', 'c')), ('a', 'b'), ('b', 'a')), (('b',), ('a', 'c')))

    def test_round(self):
        wanted = (('a', 'b', 'c'), (('b', 'c'), ('b', 'a'), ('c', 'a'), ('a', 'c')))
        self.same(renamed(NET, ('c', 'a'), ('a', 'b'), ('b', 'c')), wanted)

    def test_one_after_another_is_not_all_at_once(self):
        wanted = (('b', 'c', 'd'), (('b', 'd'), ('b', 'c'), ('d', 'c'), ('c', 'd')))
        self.same(renamed(NET, ('a', 'b'), ('b', 'd')), wanted)
        self.same(renamed_holders(NET, (('a', 'b'),), ('a', 'b'), ('b', 'd')), (('b', 'd'),))

    def test_twice_the_same(self):
        self.same(renamed(NET, ('a', 'a')), NET)
        self.same(renamed(NET, ('a', 'a'), ('b', 'b'), ('d', 'd')), NET)
        self.unusable('names', -1, renamed, NET, ('a', 'a'), ('b', 'a'))

    def test_names_that_the_net_lacks(self):
        self.same(renamed(NET, ('d', 'a')), NET)
        self.same(renamed(NET, ('d', 'x'), ('e', 'x')), NET)
        self.same(renamed_holders(NET, HOLDERS, ('d', 'a')), HOLDERS)

    def test_houses_ascend_anew_and_wires_stay(self):
        self.same(renamed(EQUAL, ('a', 'z')), (('b', 'z'), (('z', 'b'), ('z', 'b'), ('b', 'z'), ('z', 'b'))))
        self.same(renamed_holders(EQUAL, (('a', 'b'), ('b',)), ('a', 'z')), (('b', 'z'), ('b',)))

    def test_pairs_at_fault(self):
        wrong = [value for value in ANYTHING if value != ('a', 'b') and value != ('a', 'a') and value != ('b', 'a')]
        wrong = [*wrong, ['a', 'd'], ('a', 'D'), ('', 'd'), ('a', 'd', 'e'), ('a', 0), (True, 'a')]
        for value in wrong:
            self.unusable('pairs', 0, renamed, NET, value)
            self.unusable('pairs', 1, renamed, NET, ('a', 'b'), value, None, ('a', 'c'))
            self.unusable('pairs', 1, renamed_holders, NET, HOLDERS, ('a', 'b'), value)

    def test_an_old_name_again(self):
        self.unusable('name', 'a', renamed, NET, ('a', 'd'), ('a', 'e'))
        self.unusable('name', 'a', renamed, NET, ('a', 'd'), ('a', 'd'))
        self.unusable('name', 'e', renamed, NET, ('e', 'e'), ('a', 'd'), ('e', 'f'))
        self.unusable('name', 'a', renamed_holders, NET, HOLDERS, ('a', 'd'), ('b', 'e'), ('a', 'e'))

    def test_the_first_element_at_fault(self):
        self.unusable('name', 'a', renamed, NET, ('a', 'b'), ('a', 'c'), None)
        self.unusable('pairs', 1, renamed, NET, ('a', 'b'), None, ('a', 'c'))
        self.unusable('pairs', 2, renamed, NET, ('a', 'b'), ('c', 'b'), ('a',))
        self.unusable('name', 'c', renamed, NET, ('a', 'b'), ('c', 'b'), ('c', 'd'))

    def test_two_houses_with_one_name(self):
        self.unusable('names', -1, renamed, NET, ('a', 'd'), ('b', 'd'))
        self.unusable('names', -1, renamed, NET, ('c', 'a'))
        self.unusable('names', -1, renamed_holders, NET, HOLDERS, ('b', 'c'))
        self.unusable('names', -1, renamed_holders, NET, (), ('b', 'c'))

    def test_net_and_holders_come_first(self):
        for net, word, at in BAD_NETS:
            self.unusable(word, at, renamed, net, None)
            self.unusable(word, at, renamed, net)
            self.unusable(word, at, renamed_holders, net, None, None)
        for holders, word, at in BAD_HOLDERS:
            self.unusable(word, at, renamed_holders, NET, holders, None)
            self.unusable(word, at, renamed_holders, NET, holders, ('a', 'b'))

    def test_results_are_nets(self):
        for net, _ in CASES:
            pairs = [(house, house * 2) for house in net[0]]
            self.same(lets_net(renamed(net, *pairs)), len(net[1]))


if __name__ == '__main__':
    unittest.main()
