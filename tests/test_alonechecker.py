"""[36], [37]: papers that show what a house can come to for itself alone, and their checker."""

import unittest

from allpieces.alone import alone_number, alone_ways
from allpieces.alonechecker import lets_alone
from allpieces.alonepapers import alone_paper
from allpieces.errors import InvalidPaper
from allpieces.nets import Net
from tests.checks import BAD_GIVINGS, BAD_HOLDERS, BAD_HOUSE, BAD_NETS, Case
from tests.samples import (
    ANYTHING, CROSS, ENDS, EQUAL, FIRST, FREE, HOLDERS, NET, NONE, ONE, ONE_HOUSE, SIDES, TWINS, changed, sets_of,
    slow_having, slow_slack, small_cases, wide_cases,
)

GOOD = ('alone', ((0, (1, 4)), (1, (2, 3))), ('t',))


def is_number(value):
    """Return whether a value is an integer from 0 on."""
    return type(value) is int and value >= 0


def is_way(net, giving, house, way):
    """Return whether a value is a way to the house, wire by wire."""
    if type(way) is not tuple or not way:
        return False
    place = None
    for k, wire in enumerate(way):
        if not is_number(wire) or wire >= len(net[1]) or giving[wire] != -1 or wire in way[:k]:
            return False
        if place not in (None, net[1][wire][0]):
            return False
        place = net[1][wire][1]
    return place == house


def slow_check(net, holders, giving, house, thing):
    """Return what lets_alone has to return, or the word and the place of the error that it has to raise."""
    found = slow_having(net, holders, giving)
    if type(thing) is not tuple or len(thing) != 3 or repr(thing[0]) != repr('alone') or type(thing[1]) is not tuple:
        return 'shape', -1
    _, pairs, houses = thing
    if not all(type(pair) is tuple and len(pair) == 2 for pair in pairs) or houses not in list(sets_of(net[0])):
        return 'shape', -1
    for k, (piece, way) in enumerate(pairs):
        if not is_number(piece) or piece >= len(holders) or house in found[piece]:
            return 'pair', k
        if piece in [other for other, _ in pairs[:k]] or not is_way(net, giving, house, way):
            return 'pair', k
        if net[1][way[0]][0] not in found[piece]:
            return 'pair', k
    for k, (_, way) in enumerate(pairs):
        if set(way) & {wire for _, other in pairs[:k] for wire in other}:
            return 'wire', k
    if house not in houses:
        return 'house', -1
    most = len(pairs) + sum(house in owners for owners in found)
    if most != slow_slack(net, holders, giving, houses) + len(holders):
        return 'more', -1
    return most


class AlonePaperTest(Case):

    def check_paper(self, net, holders, giving, house):
        """Check that the paper is as it has to be."""
        paper = alone_paper(net, holders, giving, house)
        number = alone_number(net, holders, giving, house)
        self.same(slow_check(net, holders, giving, house, paper), number)
        self.same(lets_alone(net, holders, giving, house, paper), number)
        return paper

    def test_examples(self):
        self.same(lets_alone(NET, HOLDERS, FREE, 'c', alone_paper(NET, HOLDERS, FREE, 'c')), 2)
        paper = self.check_paper(CROSS, ENDS, NONE, 't')
        self.same(paper[:2], GOOD[:2])
        self.both_ways(paper, alone_paper, net=CROSS, holders=ENDS, giving=NONE, house='t')

    def test_all(self):
        for net, holders, giving in (*small_cases(), *wide_cases()):
            for house in net[0]:
                self.check_paper(net, holders, giving, house)

    def test_edges(self):
        self.check_paper(ONE_HOUSE, (), (), 'a')
        self.check_paper(NET, (), FREE, 'b')
        self.same(self.check_paper(TWINS, SIDES, FREE, 'c')[1], ())

    def test_errors(self):
        usable = {'net': NET, 'holders': HOLDERS, 'giving': FIRST, 'house': 'b'}
        wrong = {'net': BAD_NETS, 'holders': BAD_HOLDERS, 'giving': BAD_GIVINGS, 'house': BAD_HOUSE}
        self.first_error(alone_paper, usable, wrong)


class AloneCheckerTest(Case):

    def check(self, net, holders, giving, house, thing):
        """Check that lets_alone says what the document says, and return it."""
        wanted = slow_check(net, holders, giving, house, thing)
        if isinstance(wanted, tuple):
            self.invalid(*wanted, lets_alone, net, holders, giving, house, thing)
        else:
            self.same(lets_alone(net, holders, giving, house, thing), wanted)
            self.same(wanted, alone_number(net, holders, giving, house))
        return wanted

    def test_examples(self):
        for houses in (('b',), ('b', 'c')):
            paper = ('alone', ((1, (1, 3)),), houses)
            self.both_ways(2, lets_alone, net=NET, holders=HOLDERS, giving=FIRST, house='b', thing=paper)
        self.invalid('pair', 0, lets_alone, NET, HOLDERS, FIRST, 'b', ('alone', ((1, (3,)),), ('b',)))
        paper = ('alone', ((1, (1,)), (0, (1,))), ('c',))
        self.invalid('wire', 1, lets_alone, NET, HOLDERS, FREE, 'c', paper)
        self.invalid('more', -1, lets_alone, NET, HOLDERS, FIRST, 'b', ('alone', (), ('b',)))

    def test_ways_in_any_order(self):
        turned = ('alone', GOOD[1][::-1], GOOD[2])
        self.same(lets_alone(CROSS, ENDS, NONE, 't', GOOD), 2)
        self.same(lets_alone(CROSS, ENDS, NONE, 't', turned), 2)

    def test_one_thing_changed(self):
        said = set()
        for paper in (GOOD, ('alone', GOOD[1][::-1], ('t', 'x', 'y'))):
            for thing in changed(paper):
                said.add(self.check(CROSS, ENDS, NONE, 't', thing))
        self.assertEqual(said, {
            ('shape', -1), ('pair', 0), ('pair', 1), ('pair', 2), ('house', -1), ('more', -1), 2,
        })

    def test_one_thing_changed_in_all_papers(self):
        for k, (net, holders, giving) in enumerate(small_cases()):
            if k % 8 == 0:
                house = net[0][k % len(net[0])]
                for thing in changed(alone_paper(net, holders, giving, house)):
                    self.check(net, holders, giving, house, thing)

    def test_what_is_no_paper(self):
        for thing in (*ANYTHING, Net.of(NET), [*GOOD], ('alone', [], ('t',)), ('alone', ((0, 1, 2),), ('t',))):
            self.check(CROSS, ENDS, NONE, 't', thing)
            self.check(CROSS, ENDS, NONE, 't', ('alone', thing, ('t',)))
            self.check(CROSS, ENDS, NONE, 't', ('alone', GOOD[1], thing))
            self.check(CROSS, ENDS, NONE, 't', (thing, GOOD[1], GOOD[2]))
            self.check(CROSS, ENDS, NONE, 't', ('alone', (thing, *GOOD[1]), ('t',)))
            for pair in ((thing, (1, 4)), (0, thing), (0, (thing,)), (0, (1, thing)), (0, (thing, 4))):
                self.check(CROSS, ENDS, NONE, 't', ('alone', (pair, GOOD[1][1]), ('t',)))

    def test_all_sets(self):
        for net, holders, giving in small_cases():
            for house in net[0]:
                ways = alone_ways(net, holders, giving, house)
                fits = 0
                for houses in sets_of(net[0]):
                    fits += isinstance(self.check(net, holders, giving, house, ('alone', ways, houses)), int)
                    if ways:
                        self.check(net, holders, giving, house, ('alone', ways[1:], houses))
                self.assertGreater(fits, 0)

    def test_pairs(self):
        def refuse(at, *pairs, net=CROSS, holders=ENDS, giving=NONE, house='t'):
            self.invalid('pair', at, lets_alone, net, holders, giving, house, ('alone', pairs, (house,)))

        refuse(0, (True, (2, 3)), (0, (1, 4)))
        refuse(0, (-1, (2, 3)))
        refuse(0, (2, (2, 3)))
        refuse(1, (0, (1, 4)), (0, (0, 3)))
        refuse(0, (0, ()))
        refuse(0, (0, [1, 4]))
        refuse(0, (0, (True, 4)))
        refuse(0, (0, (1,)))
        refuse(0, (0, (4,)))
        refuse(0, (0, (1, 3)))
        refuse(0, (0, (4, 1)))
        refuse(0, (0, (1, 5)))
        refuse(0, (0, (1, -1)))
        refuse(0, (1, (1, 4)))
        refuse(0, (0, (1, 4)), giving=(-1, 0, -1, -1, -1))
        refuse(0, (0, (0,)), net=EQUAL, holders=ONE, giving=(0, -1, -1, -1), house='b')
        refuse(0, (0, (1,)), net=EQUAL, holders=ONE, giving=(0, -1, -1, -1), house='b')

    def test_a_way_with_a_wire_twice(self):
        net = (('a', 'b', 'c'), (('a', 'b'), ('b', 'c'), ('c', 'b')))
        free = (-1, -1, -1)
        self.invalid('pair', 0, lets_alone, net, ONE, free, 'c', ('alone', ((0, (0, 1, 2, 1)),), ('c',)))
        # Going round by other wires is a way, though a long one.
        self.same(lets_alone(net, ONE, free, 'b', ('alone', ((0, (0, 1, 2)),), ('b', 'c'))), 1)

    def test_pairs_come_before_wires_and_these_before_the_house(self):
        twice = ((0, (1, 4)), (1, (2, 3)), (2, (2, 3)))
        self.invalid('pair', 2, lets_alone, CROSS, ENDS, NONE, 't', ('alone', twice, ('a',)))
        net = (('a', 'b'), (('a', 'b'), ('a', 'b')))
        pairs = ((0, (0,)), (1, (0,)))
        self.invalid('wire', 1, lets_alone, net, HOLDERS, (-1, -1), 'b', ('alone', pairs, ('a',)))
        self.invalid('wire', 2, lets_alone, net, (('a',),) * 3, (-1, -1), 'b',
                     ('alone', ((0, (1,)), (2, (0,)), (1, (1,))), ('b',)))
        self.invalid('house', -1, lets_alone, net, HOLDERS, (-1, -1), 'b', ('alone', pairs[:1], ('a',)))
        self.invalid('more', -1, lets_alone, net, HOLDERS, (-1, -1), 'b', ('alone', pairs[:1], ('b',)))

    def test_what_is_accepted_is_true(self):
        # All papers of a small net, whoever wrote them.
        net, free = (('a', 'b', 'c'), (('a', 'b'), ('b', 'c'), ('a', 'c'))), (-1, -1, -1)
        ways = [(wire,) for wire in range(3)] + [(one, two) for one in range(3) for two in range(3)]
        pairs = [()] + [((piece, way),) for piece in range(2) for way in ways]
        pairs += [((0, one), (1, two)) for one in ways for two in ways]
        for house in net[0]:
            for ways in pairs:
                for houses in sets_of(net[0]):
                    self.check(net, HOLDERS, free, house, ('alone', ways, houses))

    def test_errors(self):
        usable = {'net': NET, 'holders': HOLDERS, 'giving': FIRST, 'house': 'b', 'thing': None}
        wrong = {'net': BAD_NETS, 'holders': BAD_HOLDERS, 'giving': BAD_GIVINGS, 'house': BAD_HOUSE}
        self.first_error(lets_alone, usable, wrong)
        with self.assertRaises(InvalidPaper):
            lets_alone(**usable)


if __name__ == '__main__':
    unittest.main()
