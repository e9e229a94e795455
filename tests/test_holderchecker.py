"""[4], [14]: holders."""

import unittest

from allpieces.errors import InvalidPaper
from allpieces.holderchecker import lets_holders
from tests.checks import BAD_NETS, Case
from tests.samples import ANYTHING, CASES, HOLDERS, NET, ONE_HOUSE, SIDES, TWINS


class HolderCheckerTest(Case):

    def test_example(self):
        self.both_ways(2, lets_holders, net=NET, thing=HOLDERS)

    def test_holders(self):
        self.same(lets_holders(NET, ()), 0)
        self.same(lets_holders(ONE_HOUSE, (('a',),) * 30), 30)
        self.same(lets_holders(TWINS, SIDES), 2)
        self.same(lets_holders(NET, (('a', 'b', 'c'), ('c',))), 2)
        for net, holders in CASES:
            self.same(lets_holders(net, holders), len(holders))

    def test_shape(self):
        for thing in (None, [], [('a',)], 'a', 0, True, ''):
            self.invalid('shape', -1, lets_holders, NET, thing)

    def test_pieces(self):
        wrong = [(), ('d',), ('a', 'd'), ('b', 'a'), ('a', 'a'), ('a', 'c', 'b'), ['a'], 'a', None, 0, True, (0,),
                 (('a',),), (['a'],), ('A',), ('',)]
        for houses in wrong:
            self.invalid('piece', 0, lets_holders, NET, (houses,))
            self.invalid('piece', 1, lets_holders, NET, (('a',), houses, None))

    def test_net_comes_first(self):
        for net, word, at in BAD_NETS:
            for thing in (HOLDERS, (), None, (None,)):
                self.unusable(word, at, lets_holders, net, thing)

    def test_any_value(self):
        for value in ANYTHING:
            for thing in (value, (value,)):
                try:
                    self.same(lets_holders(NET, thing), len(thing))
                except InvalidPaper as error:
                    self.assertIn(error.word, ('shape', 'piece'))


if __name__ == '__main__':
    unittest.main()
