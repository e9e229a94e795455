"""[5], [15]: givings."""

import unittest

from allpieces.errors import InvalidPaper
from allpieces.givingchecker import lets_giving
from tests.checks import BAD_HOLDERS, BAD_NETS, Case
from tests.samples import (
    ANYTHING, APART, CASES, EQUAL, FIRST, FREE, HOLDERS, LINE, NET, ONE_HOUSE, SIDES, TWINS, VAIN, slow_having,
    tuples_of,
)

ONE = (('a',),)


class GivingCheckerTest(Case):

    def test_examples(self):
        self.both_ways(1, lets_giving, net=NET, holders=HOLDERS, thing=FIRST)
        self.same(lets_giving(LINE, ONE, (0, 0, -1)), 2)
        self.invalid('source', 0, lets_giving, LINE, ONE, (0, -1, 0))

    def test_givings(self):
        self.same(lets_giving(NET, HOLDERS, FREE), 0)
        self.same(lets_giving(NET, HOLDERS, VAIN), 4)
        self.same(lets_giving(NET, (), FREE), 0)
        self.same(lets_giving(APART, ONE, ()), 0)
        self.same(lets_giving(ONE_HOUSE, (), ()), 0)
        self.same(lets_giving(EQUAL, ONE, (0, 0, 0, -1)), 3)
        self.same(lets_giving(TWINS, SIDES, (0, 0, 1, 1)), 4)

    def test_wires_that_feed_each_other_without_a_holder(self):
        self.invalid('source', 2, lets_giving, NET, (('a',), ('a',)), (-1, -1, 0, 0))
        self.invalid('source', 2, lets_giving, NET, HOLDERS, (0, -1, 1, 1))
        self.invalid('source', 2, lets_giving, TWINS, SIDES, (-1, -1, 0, 0))

    def test_a_piece_is_brought_on_whatever_the_numbers(self):
        houses = ('a', 'b', 'c', 'd', 'e')
        back = (houses, (('d', 'e'), ('c', 'd'), ('b', 'c'), ('a', 'b')))
        self.same(lets_giving(back, ONE, (0, 0, 0, 0)), 4)
        self.invalid('source', 0, lets_giving, back, ONE, (0, 0, -1, 0))
        self.invalid('source', 1, lets_giving, back, ONE, (-1, 0, -1, 0))

    def test_the_source_needs_this_very_piece(self):
        self.invalid('source', 2, lets_giving, NET, HOLDERS, (0, -1, 1, -1))
        self.invalid('source', 0, lets_giving, NET, (('b',), ('a',)), (0, 1, -1, -1))

    def test_shape(self):
        for thing in (None, [], [-1, -1, -1, -1], (), (-1,), (-1, -1, -1), (-1, -1, -1, -1, -1), 'free', 0, True):
            self.invalid('shape', -1, lets_giving, NET, HOLDERS, thing)

    def test_given(self):
        for piece in (2, -2, True, False, None, '0', '-', (0,), [0], 10 ** 59):
            self.invalid('given', 0, lets_giving, NET, HOLDERS, (piece, 2, 0, 0))
            self.invalid('given', 3, lets_giving, NET, HOLDERS, (-1, 0, 0, piece))
        self.invalid('given', 1, lets_giving, NET, (), (-1, 0, -1, -1))

    def test_given_comes_before_source(self):
        self.invalid('given', 3, lets_giving, NET, HOLDERS, (-1, -1, 0, 2))

    def test_net_and_holders_come_first(self):
        for net, word, at in BAD_NETS:
            for holders in (HOLDERS, None):
                self.unusable(word, at, lets_giving, net, holders, None)
        for holders, word, at in BAD_HOLDERS:
            for thing in (FREE, None):
                self.unusable(word, at, lets_giving, NET, holders, thing)

    def test_plain_answers(self):
        for net, holders in CASES:
            for given in tuples_of(net, holders):
                found = slow_having(net, holders, given)
                lacks = [k for k, piece in enumerate(given) if piece != -1 and net[1][k][0] not in found[piece]]
                if lacks:
                    self.invalid('source', lacks[0], lets_giving, net, holders, given)
                else:
                    self.same(lets_giving(net, holders, given), sum(1 for piece in given if piece != -1))

    def test_any_value(self):
        for value in ANYTHING:
            for thing in (value, (value, -1, -1, -1)):
                try:
                    self.assertIsInstance(lets_giving(NET, HOLDERS, thing), int)
                except InvalidPaper as error:
                    self.assertIn(error.word, ('shape', 'given', 'source'))


if __name__ == '__main__':
    unittest.main()
