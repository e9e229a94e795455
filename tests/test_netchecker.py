"""[3], [12]: nets."""

import unittest

from allpieces.errors import InvalidPaper
from allpieces.kinds import is_houses
from allpieces.netchecker import lets_net
from tests.checks import Case
from tests.samples import ANYTHING, APART, EQUAL, NET, ONE_HOUSE


class NetCheckerTest(Case):

    def test_examples(self):
        self.both_ways(4, lets_net, thing=NET)
        self.invalid('wire', 1, lets_net, (('a', 'b'), (('a', 'b'), ('b', 'c'))))

    def test_nets(self):
        self.same(lets_net(ONE_HOUSE), 0)
        self.same(lets_net(APART), 0)
        self.same(lets_net(EQUAL), 4)
        self.same(lets_net((('a', 'b'), (('a', 'b'), ('b', 'a')))), 2)
        self.same(lets_net((('abcdefgh', 'b'), (('b', 'abcdefgh'),))), 1)

    def test_limits_are_ignored(self):
        letters = 'abcdefghijklmnopqrstuvwxyz'
        houses = tuple(sorted(one + two for one in letters for two in letters))
        wires = tuple(zip(houses, houses[1:])) * 2
        self.same(lets_net((houses, wires)), 2 * (26 * 26 - 1))
        self.invalid('wire', len(wires), lets_net, (houses, (*wires, ('aa', 'a'))))

    def test_shape(self):
        for thing in (None, True, 1, '', 'ab', (), [], (('a',),), (('a',), (), ()), [('a',), ()], ((), (), ())):
            self.invalid('shape', -1, lets_net, thing)

    def test_houses(self):
        for houses in ((), [], ['a'], 'a', None, 0, ('b', 'a'), ('a', 'a'), ('A',), ('',), (1,), ('a', True)):
            for wires in ((), None, [], (('a', 'a'),)):
                self.invalid('houses', -1, lets_net, (houses, wires))

    def test_wires(self):
        for wires in (None, [], [('a', 'b')], 'ab', 0, True):
            self.invalid('wires', -1, lets_net, (('a', 'b'), wires))

    def test_wire(self):
        wrong = [('a', 'a'), ('a', 'c'), ('c', 'a'), ('a',), ('a', 'b', 'a'), ['a', 'b'], 'ab', None, 0, True, (),
                 (('a',), 'b'), (['a'], 'b'), ('a', ['b']), ('a', 0), ('A', 'b')]
        for wire in wrong:
            self.invalid('wire', 0, lets_net, (('a', 'b'), (wire,)))
            self.invalid('wire', 2, lets_net, (('a', 'b'), (('a', 'b'), ('b', 'a'), wire, None)))

    def test_any_value(self):
        for thing in ANYTHING:
            for value in (thing, (('a', 'b'), thing), (thing, ()), (('a', 'b'), (thing,))):
                try:
                    self.assertIsInstance(lets_net(value), int)
                except InvalidPaper as error:
                    self.assertIn(error.word, ('shape', 'houses', 'wires', 'wire'))
                else:
                    self.assertTrue(is_houses(value[0]))


if __name__ == '__main__':
    unittest.main()
