"""[20]: class Start."""

import unittest

from allpieces.errors import InvalidText, NotUsable
from allpieces.nets import Net
from allpieces.nettexts import holders_words
from allpieces.starts import Start
from tests.checks import BAD_HOLDERS, BAD_HOUSE, BAD_HOUSES, BAD_NETS, BAD_PIECE, Case, faults
from tests.samples import ANYTHING, CASES, HOLDERS, NET, ONE_HOUSE, SIDES, TWINS, sets_of


class StartTest(Case):

    def test_example(self):
        start = Start.of(NET, HOLDERS)
        self.same(start[1], ('a',))
        self.same('b' in start, False)
        self.same(list(start + ('b', 'c'))[2], ('b', 'c'))
        self.same(str(start.copied(1, 'c')), 'a a,c')
        self.same(Start.read(NET, 'a a') == start, True)
        self.unusable('piece', 2, lambda: start - 2)

    def test_properties(self):
        for net, holders in CASES:
            one = Start(net, *holders)
            self.same(one.net, net)
            self.same(one.holders, holders)
        self.same(Start(net=NET).holders, ())

    def test_errors(self):
        for net, word, at in BAD_NETS:
            self.unusable(word, at, Start, net)
            self.unusable(word, at, Start, net, None)
        for value in ANYTHING:
            if value in list(sets_of(NET[0])):
                continue
            self.unusable('holders', -1, Start, NET, value)
            self.unusable('holders', -1, Start, NET, ('a',), value, None)
        self.unusable('net', -1, Start, Net.of(NET))

    def test_it_never_changes(self):
        one = Start.of(NET, HOLDERS)
        for name in ('net', 'holders'):
            with self.assertRaises(AttributeError):
                setattr(one, name, ())
        one + ('b',)
        one - 0
        one.copied(0, 'b')
        self.unusable('houses', -1, lambda: one + ())
        self.unusable('piece', 9, lambda: one - 9)
        self.unusable('house', 'a', one.copied, 0, 'a')
        self.same((one.net, one.holders, list(one)), (NET, HOLDERS, list(HOLDERS)))

    def test_sets_by_number(self):
        for net, holders in CASES:
            one = Start.of(net, holders)
            self.same([one[piece] for piece in range(len(holders))], list(holders))
        for value in ANYTHING:
            if repr(value) not in ('0', '1'):
                self.unusable('piece', value, lambda value: Start.of(NET, HOLDERS)[value], value)
        self.unusable('piece', 0, lambda value: Start.of(NET, ())[value], 0)

    def test_contains(self):
        one = Start(NET, ('a',), ('a', 'c'))
        for value in (*ANYTHING, 'b', 'c', 'd', ('a', 'c'), ['a']):
            self.same(value in one, repr(value) in ("'a'", "'c'"))
        self.same('a' in Start(NET), False)

    def test_length_and_iteration(self):
        for net, holders in CASES:
            one = Start.of(net, holders)
            self.same(len(one), len(holders))
            self.same(list(one), list(holders))

    def test_equal(self):
        self.same(Start(NET, *HOLDERS) == Start.of(NET, HOLDERS), True)
        self.same(Start(NET, *HOLDERS) != Start.of(NET, HOLDERS), False)
        longer = (NET[0], (*NET[1], ('a', 'b')))
        others = [Start(NET), Start(NET, ('a',)), Start(NET, ('a',), ('b',)), Start(longer, *HOLDERS)]
        for other in (*others, Net.of(NET), *ANYTHING, (NET, HOLDERS), 'a a'):
            self.same(Start.of(NET, HOLDERS) == other, False)
            self.same(other == Start.of(NET, HOLDERS), False)
            self.same(Start.of(NET, HOLDERS) != other, True)

    def test_text(self):
        for net, holders in CASES:
            self.same(str(Start.of(net, holders)), holders_words(holders))
        self.same(str(Start(NET)), '-')

    def test_a_piece_more(self):
        for net, holders in CASES:
            for houses in sets_of(net[0]):
                more = Start.of(net, holders) + houses
                self.assertIs(type(more), Start)
                self.same((more.net, more.holders), (net, (*holders, houses)))
        for houses, word, at in BAD_HOUSES:
            self.unusable(word, at, lambda value: Start.of(NET, HOLDERS) + value, houses)
        for value in ANYTHING:
            if value not in list(sets_of(NET[0])):
                self.unusable('houses', -1, lambda value: Start.of(NET, HOLDERS) + value, value)

    def test_a_piece_less(self):
        for net, holders in CASES:
            for piece in range(len(holders)):
                less = Start.of(net, holders) - piece
                self.assertIs(type(less), Start)
                self.same((less.net, less.holders), (net, holders[:piece] + holders[piece + 1:]))
        for value in ANYTHING:
            if repr(value) not in ('0', '1'):
                self.unusable('piece', value, lambda value: Start.of(NET, HOLDERS) - value, value)

    def test_copied(self):
        one = Start.of(TWINS, SIDES).copied(piece=0, house='d')
        self.assertIs(type(one), Start)
        self.same((one.net, one.holders), (TWINS, (('a', 'b', 'd'), ('c', 'd'))))
        self.same(one.copied(1, 'a').holders, (('a', 'b', 'd'), ('a', 'c', 'd')))
        wrong = {'piece': BAD_PIECE, 'house': [*BAD_HOUSE, ('a', 'house', 'a')]}
        self.first_error(Start.of(NET, HOLDERS).copied, {'piece': 1, 'house': 'b'}, wrong)

    def test_of(self):
        self.assertIs(type(Start.of(NET, HOLDERS)), Start)
        self.same(Start.of(net=NET, holders=()).holders, ())
        self.first_error(Start.of, {'net': NET, 'holders': HOLDERS}, {'net': BAD_NETS, 'holders': BAD_HOLDERS})
        self.unusable('holders', -1, Start.of, NET, Start.of(NET, HOLDERS))

    def test_read(self):
        one = Start.read(net=NET, text='a,b c')
        self.assertIs(type(one), Start)
        self.same((one.net, one.holders), (NET, (('a', 'b'), ('c',))))
        self.same(Start.read(ONE_HOUSE, '-').holders, ())
        self.unreadable(0, 1, Start.read, NET, 'd a,a')
        self.unreadable(0, 0, Start.read, NET, '')
        self.unusable('holders', -1, Start.read, NET, 'a d')
        texts = [*faults('text', None, 0, HOLDERS, ['a']), *faults('holders', 'd', 'a a,d')]
        self.first_error(Start.read, {'net': NET, 'text': 'a'}, {'net': BAD_NETS, 'text': texts})
        self.unusable('net', -1, Start.read, None, '')

    def test_errors_are_not_mixed_up(self):
        with self.assertRaises(InvalidText):
            Start.read(NET, 'd -')
        with self.assertRaises(NotUsable):
            Start.read(NET, 'd')


if __name__ == '__main__':
    unittest.main()
