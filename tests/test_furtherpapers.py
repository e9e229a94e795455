"""[50], as far as it speaks of further_paper."""

import unittest

from allpieces.comings import serves
from allpieces.further import further_copies
from allpieces.furtherpapers import further_paper
from allpieces.givingchecker import lets_giving
from allpieces.netchanges import laid
from tests.checks import BAD_GIVINGS, BAD_HOLDERS, BAD_NETS, Case
from tests.samples import (
    APART, FIRST, FREE, HOLDERS, NARROW, NET, ONE, ONE_HOUSE, SIDES, TWINS, VAIN, leads_on, sets_of, slow_having,
    slow_slack, small_cases, wide_cases,
)


class FurtherPapersTest(Case):

    def check(self, net, holders, giving):
        """Check a paper point by point, and return it."""
        paper = further_paper(net, holders, giving)
        self.assertIsInstance(paper, tuple)
        word, copies, sets, late = paper
        self.same(word, 'further')
        for part in paper[1:]:
            self.assertIsInstance(part, tuple)
        self.assertEqual(list(copies), sorted(set(copies)))
        found = slow_having(net, holders, giving)
        self.assertTrue(all(house in net[0] and house not in found[piece] for piece, house in copies))
        self.assertTrue(all(houses in list(sets_of(net[0])) for houses in sets))
        self.assertTrue(all(slow_slack(net, holders, giving, houses) < 0 for houses in sets))
        together = [house for houses in sets for house in houses]
        self.assertEqual(len(set(together)), len(together))
        self.same(len(copies), -sum(slow_slack(net, holders, giving, houses) for houses in sets))
        more = holders
        for piece, house in copies:
            more = laid(net, more, piece, house)
        lets_giving(net, more, late)
        self.assertTrue(leads_on(late, giving))
        self.same(serves(net, more, late), True)
        return paper

    def test_the_line(self):
        paper = self.check(NARROW, HOLDERS, FREE)
        self.same(len(paper[1]), 1)
        self.same(paper[1], further_copies(NARROW, HOLDERS, FREE))
        self.same(paper[2], (('b', 'c'),))
        self.both_ways(paper, further_paper, net=NARROW, holders=HOLDERS, giving=FREE)

    def test_edges(self):
        self.same(self.check(NET, HOLDERS, FIRST), ('further', (), (), (0, 1, 0, 1)))
        self.same(self.check(ONE_HOUSE, (), ()), ('further', (), (), ()))
        self.same(self.check(NET, ONE, VAIN), ('further', (), (), VAIN))
        self.same(self.check(TWINS, SIDES, FREE)[2], (('a', 'b'), ('c', 'd')))
        copies = ((0, 'b'), (0, 'c'), (1, 'a'), (1, 'c'))
        paper = ('further', copies, (('a',), ('b',), ('c',)), ())
        self.same(self.check(APART, (('a',), ('b',)), ()), paper)

    def test_givings_in_vain(self):
        self.check(NET, HOLDERS, VAIN)
        self.check(NET, HOLDERS, (0, 0, -1, -1))

    def test_all(self):
        for net, holders, giving in (*small_cases(), *wide_cases()):
            self.check(net, holders, giving)

    def test_errors(self):
        usable = {'net': NET, 'holders': HOLDERS, 'giving': FIRST}
        self.first_error(further_paper, usable, {'net': BAD_NETS, 'holders': BAD_HOLDERS, 'giving': BAD_GIVINGS})


if __name__ == '__main__':
    unittest.main()
