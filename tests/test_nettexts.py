"""[17]: nets, holders and givings as texts."""

import unittest

from allpieces.nettexts import giving_words, holders_words, net_text
from tests.checks import BAD_NETS, Case
from tests.samples import ANYTHING, APART, EQUAL, FIRST, NET, ONE_HOUSE


class NetTextsTest(Case):

    def test_examples(self):
        self.both_ways('houses a b c\na b\na c\nb c\nc b', net_text, net=NET)
        self.both_ways('a,b c', holders_words, holders=(('a', 'b'), ('c',)))
        self.both_ways('0 - - -', giving_words, giving=FIRST)
        self.both_ways('-', holders_words, holders=())
        self.both_ways('none', giving_words, giving=())

    def test_nets(self):
        self.same(net_text(ONE_HOUSE), 'houses a')
        self.same(net_text(APART), 'houses a b c')
        self.same(net_text(EQUAL), 'houses a b\na b\na b\nb a\na b')
        self.same(net_text((('houses', 'none'), (('none', 'houses'),))), 'houses houses none\nnone houses')

    def test_net_errors(self):
        for net, word, at in BAD_NETS:
            self.unusable(word, at, net_text, net)
        for value in ANYTHING:
            if value not in (NET, (('a', 'b'), ()), (('a', 'b'), (('a', 'b'),))):
                self.unusable('net', -1, net_text, value)

    def test_holders(self):
        self.same(holders_words((('a',),)), 'a')
        self.same(holders_words((('none',), ('a', 'b', 'c'), ('none',))), 'none a,b,c none')
        self.same(holders_words((('anywhere', 'zz'),)), 'anywhere,zz')

    def test_holders_errors(self):
        wrong = [None, '', '-', 'a', 0, True, [], [('a',)], ((),), (('a',), ()), (('b', 'a'),), (('a', 'a'),), (['a'],),
                 ('a',), (('A',),), (0,), (('a',), None), ((('a',),),)]
        for value in wrong:
            self.unusable('holders', -1, holders_words, value)

    def test_givings(self):
        self.same(giving_words((-1,)), '-')
        self.same(giving_words((0, 12, -1, 7)), '0 12 - 7')
        self.same(giving_words((10 ** 60,)), '1' + '0' * 60)

    def test_givings_errors(self):
        wrong = [None, '', 'none', 0, -1, True, [], [0], (-2,), (0, -2), (True,), (0, False), (None,), ('0',), ((0,),)]
        for value in wrong:
            self.unusable('giving', -1, giving_words, value)


if __name__ == '__main__':
    unittest.main()
