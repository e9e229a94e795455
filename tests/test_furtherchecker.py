"""[50], as far as it speaks of lets_further."""

import unittest
from itertools import combinations

from allpieces.errors import InvalidPaper
from allpieces.further import apart_sets, fewest_further, further_copies
from allpieces.furtherchecker import lets_further
from allpieces.furtherpapers import further_paper
from allpieces.nets import Net
from allpieces.soundness import lead_on
from tests.checks import BAD_GIVINGS, BAD_HOLDERS, BAD_NETS, Case
from tests.samples import (
    ANYTHING, APART, FIRST, FREE, HOLDERS, NARROW, NET, ONE_HOUSE, SIDES, TWINS, VAIN, changed, is_giving, leads_on,
    sets_of, slow_copies, slow_having, slow_slack, small_cases, tuples_of, wide_cases,
)

GOOD = ('further', ((0, 'b'),), (('b', 'c'),), (1, 0, 1, -1))
# Two copies at least: a and b lack piece 1, c and d lack piece 0, and no wire leads from the ones to the others.
BOTH = ('further', ((0, 'c'), (1, 'b')), (('a', 'b'), ('c', 'd')), (-1, 1, 0, -1))


def is_copy(net, found, thing):
    """Return whether a value is a copy of a piece that its house lacks."""
    if type(thing) is not tuple or len(thing) != 2 or type(thing[0]) is not int or type(thing[1]) is not str:
        return False
    piece, house = thing
    return 0 <= piece < len(found) and house in net[0] and house not in found[piece]


def is_late(net, holders, giving, thing):
    """Return whether a value is a giving that serves and leads on."""
    if type(thing) is not tuple or len(thing) != len(net[1]) or not all(type(piece) is int for piece in thing):
        return False
    if not all(-1 <= piece < len(holders) for piece in thing) or not is_giving(net, holders, thing):
        return False
    return leads_on(thing, giving) and all(len(have) == len(net[0]) for have in slow_having(net, holders, thing))


def slow_check(net, holders, giving, thing):
    """Return what lets_further has to return, or the word and the place of the error that it has to raise."""
    if type(thing) is not tuple or len(thing) != 4 or repr(thing[0]) != repr('further'):
        return 'shape', -1
    word, copies, sets, late = thing
    if not all(type(part) is tuple for part in (copies, sets, late)):
        return 'shape', -1
    found = slow_having(net, holders, giving)
    if not all(is_copy(net, found, copy) for copy in copies) or list(copies) != sorted(set(copies)):
        return 'copies', -1
    for k, houses in enumerate(sets):
        if houses not in list(sets_of(net[0])) or slow_slack(net, holders, giving, houses) >= 0:
            return 'set', k
        if set(houses) & {house for other in sets[:k] for house in other}:
            return 'apart', k
    if len(copies) != -sum(slow_slack(net, holders, giving, houses) for houses in sets):
        return 'more', -1
    if not is_late(net, slow_copies(net, holders, copies), giving, late):
        return 'giving', -1
    return len(copies)


class FurtherCheckerTest(Case):

    def check(self, net, holders, giving, thing):
        """Check that lets_further says what the document says, and return it."""
        wanted = slow_check(net, holders, giving, thing)
        if isinstance(wanted, tuple):
            self.invalid(*wanted, lets_further, net, holders, giving, thing)
        else:
            self.same(lets_further(net, holders, giving, thing), wanted)
            self.same(wanted, sum(fewest_further(net, holders, giving)))
        return wanted

    def test_examples(self):
        self.both_ways(1, lets_further, net=NARROW, holders=HOLDERS, giving=FREE, thing=GOOD)
        self.invalid('set', 0, lets_further, NARROW, HOLDERS, FREE, (*GOOD[:2], (('b',),), GOOD[3]))

    def test_papers(self):
        for net, holders, giving in (*small_cases(), *wide_cases()):
            paper = further_paper(net, holders, giving)
            self.same(lets_further(net, holders, giving, paper), len(further_copies(net, holders, giving)))
            self.check(net, holders, giving, paper)
            # In any order, unlike the copies.
            self.check(net, holders, giving, (*paper[:2], paper[2][::-1], paper[3]))
            self.check(net, holders, giving, (paper[0], paper[1][::-1], *paper[2:]))

    def test_edges(self):
        self.same(lets_further(NET, HOLDERS, FIRST, ('further', (), (), (0, 1, 0, 1))), 0)
        self.same(lets_further(ONE_HOUSE, (), (), ('further', (), (), ())), 0)
        self.same(lets_further(ONE_HOUSE, (('a',),), (), ('further', (), (), ())), 0)
        self.same(lets_further(NET, (), FREE, ('further', (), (), FREE)), 0)
        self.same(lets_further(NET, HOLDERS, VAIN, further_paper(NET, HOLDERS, VAIN)), 2)
        copies = ((0, 'b'), (0, 'c'), (1, 'a'), (1, 'c'))
        paper = ('further', copies, (('c',), ('a',), ('b',)), ())
        self.same(lets_further(APART, (('a',), ('b',)), (), paper), 4)

    def test_one_thing_changed(self):
        said = set()
        for thing in changed(GOOD):
            said.add(self.check(NARROW, HOLDERS, FREE, thing))
        self.assertEqual(said, {
            ('shape', -1), ('copies', -1), ('set', 0), ('apart', 1), ('more', -1), ('giving', -1), 1,
        })
        for paper in (BOTH, (*BOTH[:2], BOTH[2][::-1], BOTH[3])):
            for thing in changed(paper):
                said.add(self.check(TWINS, SIDES, FREE, thing))
        self.assertLess({('set', 1), ('apart', 1), ('apart', 2), 2}, said)

    def test_one_thing_changed_in_all_papers(self):
        for k, (net, holders, giving) in enumerate(small_cases()):
            if k % 8 == 0:
                for thing in changed(further_paper(net, holders, giving)):
                    self.check(net, holders, giving, thing)

    def test_what_is_no_paper(self):
        for thing in (*ANYTHING, Net.of(NET), [*GOOD], GOOD[:3], (*GOOD, ()), ('alone', *GOOD[1:])):
            self.check(NARROW, HOLDERS, FREE, thing)
            for k in range(4):
                self.check(NARROW, HOLDERS, FREE, (*GOOD[:k], thing, *GOOD[k + 1:]))
                self.check(TWINS, SIDES, FREE, (*BOTH[:k], thing, *BOTH[k + 1:]))
            for copy in (thing, (thing, 'b'), (0, thing)):
                self.check(NARROW, HOLDERS, FREE, ('further', (copy,), *GOOD[2:]))
                self.check(TWINS, SIDES, FREE, ('further', (BOTH[1][0], copy), *BOTH[2:]))
            for houses in (thing, (thing,), ('b', thing)):
                self.check(NARROW, HOLDERS, FREE, (*GOOD[:2], (houses,), GOOD[3]))
            self.check(NARROW, HOLDERS, FREE, (*GOOD[:3], (1, 0, 1, thing)))

    def test_copies(self):
        def refuse(*copies, net=TWINS, holders=SIDES, giving=FREE):
            self.invalid('copies', -1, lets_further, net, holders, giving, ('further', copies, *BOTH[2:]))

        refuse((1, 'b'), (0, 'c'))
        refuse((0, 'c'), (0, 'c'))
        refuse((0, 'c'), (1, 'b'), (1, 'b'))
        refuse((0, 'a'), (1, 'b'))
        refuse((0, 'c'), (1, 'c'))
        refuse((0, 'c'), (2, 'b'))
        refuse((-1, 'b'), (0, 'c'))
        refuse((False, 'c'), (True, 'b'))
        refuse((0, 'c'), (1, 'e'))
        refuse((0, 'c'), [1, 'b'])
        refuse((0, 'c'), (1, 'b', 'b'))
        refuse(('c', 0), ('b', 1))
        refuse(None)
        # A house that came to a piece has it, though it is no holder of it.
        refuse((0, 'b'), net=NET, holders=HOLDERS, giving=(0, 0, -1, -1))

    def test_copies_of_what_came_by_wires(self):
        short = (0, 0, -1, -1)
        sets = (('b', 'c'),)
        self.same(lets_further(NET, HOLDERS, short, ('further', ((1, 'c'),), sets, (0, 0, -1, 1))), 1)
        self.same(lets_further(NET, HOLDERS, short, ('further', ((1, 'b'),), sets, (0, 0, 1, -1))), 1)
        self.invalid('copies', -1, lets_further, NET, HOLDERS, short, ('further', ((0, 'c'),), sets, (0, 0, -1, 1)))

    def test_sets(self):
        def refuse(word, at, *sets, copies=BOTH[1]):
            self.invalid(word, at, lets_further, TWINS, SIDES, FREE, ('further', copies, sets, BOTH[3]))

        self.same(lets_further(TWINS, SIDES, FREE, (*BOTH[:2], BOTH[2][::-1], BOTH[3])), 2)
        refuse('set', 0, ('b', 'a'), ('c', 'd'))
        refuse('set', 1, ('a', 'b'), ('c', 'c'))
        refuse('set', 1, ('a', 'b'), ())
        refuse('set', 1, ('a', 'b'), ['c', 'd'])
        refuse('set', 1, ('a', 'b'), ('c', 'e'))
        refuse('set', 0, ('a',), ('c', 'd'))
        refuse('set', 0, ('a', 'b', 'c', 'd'))
        refuse('apart', 1, ('a', 'b'), ('a', 'b'))
        refuse('apart', 1, ('c', 'd'), ('c', 'd'), ('a',))
        refuse('apart', 2, ('c', 'd'), ('a', 'b'), ('a', 'b'))
        # What is said of one set comes before all that is said of the next one.
        refuse('apart', 1, ('a', 'b'), ('a', 'b'), None)
        refuse('set', 1, ('a', 'b'), None, ('a', 'b'))
        refuse('more', -1)
        refuse('more', -1, ('a', 'b'))
        refuse('more', -1, *BOTH[2], copies=BOTH[1][:1])
        refuse('more', -1, *BOTH[2], copies=((0, 'c'), (0, 'd'), (1, 'b')))

    def test_sets_fall_short_without_the_copies(self):
        # With the copy no set falls short; and a copy more brings no set that could ask for it.
        self.same(slow_slack(NARROW, (('a', 'b'), ('a',)), FREE, ('b', 'c')), 0)
        self.same(lets_further(NARROW, HOLDERS, FREE, GOOD), 1)
        more = ('further', ((0, 'b'), (1, 'c')), (('b', 'c'),), (-1, 0, -1, 1))
        self.invalid('more', -1, lets_further, NARROW, HOLDERS, FREE, more)

    def test_givings(self):
        def refuse(*late, net=NARROW, giving=FREE, paper=GOOD):
            self.invalid('giving', -1, lets_further, net, HOLDERS, giving, (*paper[:3], late))

        refuse(1, 0, 1)
        refuse(1, 0, 1, -1, -1)
        refuse(1, 0, 1, 2)
        refuse(1, 0, 1, False)
        refuse(1, 0, True, -1)
        refuse(1, 0, -1, -1)
        refuse(0, 0, 1, -1)
        refuse()
        # b has piece 0 by the copy alone, and no wire leads piece 1 to c.
        refuse(1, 0, -1, 0)
        self.same(lets_further(NARROW, HOLDERS, FREE, ('further', ((1, 'c'),), GOOD[2], (0, 0, -1, 1))), 1)
        refuse(0, 0, -1, 1)
        # It has to give the wires that are not free the same pieces.
        self.same(lets_further(NARROW, HOLDERS, (1, -1, -1, -1), GOOD), 1)
        refuse(1, 0, 1, -1, giving=(1, 1, -1, -1))
        self.same(lets_further(NARROW, HOLDERS, (1, 1, -1, -1), (*GOOD[:3], (1, 1, 0, -1))), 1)

    def test_the_first_error(self):
        bad = (('copies', (None,)), ('set', (None,)), ('giving', (None,)))
        self.invalid('copies', -1, lets_further, NARROW, HOLDERS, FREE, ('further', *[part for _, part in bad]))
        self.invalid('set', 0, lets_further, NARROW, HOLDERS, FREE, ('further', (), (None,), (None,)))
        self.invalid('more', -1, lets_further, NARROW, HOLDERS, FREE, ('further', (), (('b', 'c'),), (None,)))
        self.invalid('giving', -1, lets_further, NARROW, HOLDERS, FREE, (*GOOD[:3], (None,)))
        self.invalid('shape', -1, lets_further, NARROW, HOLDERS, FREE, ('further', (None,), (None,), None))

    def test_what_is_accepted_is_true(self):
        # All papers with givings that lead on, whoever wrote them.
        for net, holders, giving in ((NARROW, HOLDERS, FREE), (TWINS, SIDES, FREE), (NET, HOLDERS, (0, 0, -1, -1))):
            found = slow_having(net, holders, giving)
            lacked = [(piece, house) for piece, owners in enumerate(found) for house in net[0] if house not in owners]
            families = [()] + [(houses,) for houses in sets_of(net[0])]
            families += [(one, two) for one in sets_of(net[0]) for two in sets_of(net[0])]
            late = [given for given in tuples_of(net, holders) if leads_on(given, giving)]
            accepted = 0
            for many in range(3):
                for copies in combinations(lacked, many):
                    own = [lead_on(net, slow_copies(net, holders, copies), giving), *late[::7]]
                    for sets in families:
                        for given in own:
                            if given is not None:
                                paper = ('further', copies, sets, given)
                                accepted += isinstance(self.check(net, holders, giving, paper), int)
            self.assertGreater(accepted, 0)

    def test_too_many_or_too_few_copies(self):
        for net, holders, giving in [*small_cases()][::5]:
            word, copies, sets, late = further_paper(net, holders, giving)
            self.same(sets, apart_sets(net, holders, giving))
            if copies:
                self.invalid('more', -1, lets_further, net, holders, giving, (word, copies[1:], sets, late))
                self.invalid('more', -1, lets_further, net, holders, giving, (word, copies, sets[1:], late))

    def test_errors(self):
        usable = {'net': NARROW, 'holders': HOLDERS, 'giving': FREE}
        wrong = {'net': BAD_NETS, 'holders': BAD_HOLDERS, 'giving': BAD_GIVINGS}
        self.first_error(lets_further, {**usable, 'thing': None}, wrong)
        self.first_error(lets_further, {**usable, 'thing': GOOD}, wrong)
        with self.assertRaises(InvalidPaper):
            lets_further(**usable, thing=None)


if __name__ == '__main__':
    unittest.main()
