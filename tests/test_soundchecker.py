"""[39]: papers that show whether a giving is sound, and their checker."""

import unittest

from allpieces.errors import InvalidPaper
from allpieces.nets import Net
from allpieces.soundchecker import lets_sound
from allpieces.soundpapers import sound_paper
from tests.checks import BAD_GIVINGS, BAD_HOLDERS, BAD_NETS, Case
from tests.samples import (
    ANYTHING, CASES, FIRST, FREE, HOLDERS, NET, ONE_HOUSE, SIDES, TWINS, changed, givings_of, is_giving, leads_on,
    sets_of, slow_leads, slow_slack, slow_sound, small_cases, tuples_of, wide_cases,
)


def by_form(net, holders, thing):
    """Return whether a value is a tuple of a piece or -1 for each wire."""
    return type(thing) is tuple and len(thing) == len(net[1]) and all(
        type(piece) is int and -1 <= piece < len(holders) for piece in thing
    )


def slow_check(net, holders, giving, thing):
    """Return what lets_sound has to return, or the word and the place of the error that it has to raise."""
    if type(thing) is not tuple or len(thing) != 2 or repr(thing[0]) not in (repr('serves'), repr('short')):
        return 'shape', -1
    word, shown = thing
    if word == 'serves':
        if not by_form(net, holders, shown) or not is_giving(net, holders, shown):
            return 'giving', -1
        return True if shown in slow_leads(net, holders, giving) else ('giving', -1)
    if shown not in list(sets_of(net[0])) or slow_slack(net, holders, giving, shown) >= 0:
        return 'short', -1
    return False


class SoundCheckerTest(Case):

    def check(self, net, holders, giving, thing):
        """Check that lets_sound says what the document says, and return it."""
        wanted = slow_check(net, holders, giving, thing)
        if isinstance(wanted, tuple):
            self.invalid(*wanted, lets_sound, net, holders, giving, thing)
        else:
            self.same(lets_sound(net, holders, giving, thing), wanted)
            self.same(wanted, slow_sound(net, holders, giving))
        return wanted

    def test_examples(self):
        self.both_ways(True, lets_sound, net=NET, holders=HOLDERS, giving=FREE, thing=('serves', (1, 0, 1, 0)))
        self.both_ways(False, lets_sound, net=TWINS, holders=SIDES, giving=FREE, thing=('short', ('c', 'd')))
        self.both_ways(('serves', (0, 1, 0, 1)), sound_paper, net=NET, holders=HOLDERS, giving=FIRST)
        self.invalid('giving', -1, lets_sound, NET, HOLDERS, FIRST, ('serves', (1, 0, 1, 0)))
        self.invalid('short', -1, lets_sound, NET, HOLDERS, FIRST, ('short', ()))

    def test_papers(self):
        for net, holders, giving in (*small_cases(), *wide_cases()):
            paper = sound_paper(net, holders, giving)
            sound = slow_sound(net, holders, giving)
            self.assertIsInstance(paper, tuple)
            self.assertEqual((paper[0], len(paper)), ('serves' if sound else 'short', 2))
            self.same(lets_sound(net, holders, giving, paper), sound)

    def test_edges(self):
        self.same(sound_paper(ONE_HOUSE, (), ()), ('serves', ()))
        self.same(sound_paper(NET, (), FREE), ('serves', FREE))
        self.same(lets_sound(ONE_HOUSE, (('a',),), (), ('serves', ())), True)
        self.invalid('short', -1, lets_sound, ONE_HOUSE, (('a',),), (), ('short', ('a',)))

    def test_all_sets_and_all_tuples(self):
        for net, holders in CASES:
            givings = list(givings_of(net, holders))
            for giving in {givings[0], givings[len(givings) // 3], givings[-1]}:
                for houses in sets_of(net[0]):
                    self.check(net, holders, giving, ('short', houses))
                for late in tuples_of(net, holders):
                    self.check(net, holders, giving, ('serves', late))

    def test_one_thing_changed(self):
        said = set()
        for k, (net, holders, giving) in enumerate(small_cases()):
            if k % 4 == 0:
                for thing in changed(sound_paper(net, holders, giving)):
                    said.add(self.check(net, holders, giving, thing))
        self.assertEqual(said, {('shape', -1), ('giving', -1), ('short', -1), True, False})

    def test_what_is_no_paper(self):
        for giving in (FREE, FIRST, (0, 0, -1, -1)):
            for thing in (*ANYTHING, Net.of(NET), ['serves', FREE], ('serves', FREE, FREE), ('serves',), ('alone', ())):
                self.check(NET, HOLDERS, giving, thing)
                self.check(NET, HOLDERS, giving, ('serves', thing))
                self.check(NET, HOLDERS, giving, ('short', thing))
                self.check(NET, HOLDERS, giving, (thing, (0, 1, 0, 1)))

    def test_what_only_seems_to_serve(self):
        def refuse(giving, late):
            self.invalid('giving', -1, lets_sound, NET, HOLDERS, giving, ('serves', late))

        refuse(FREE, (False, True, False, True))
        refuse(FREE, [0, 1, 0, 1])
        refuse(FREE, (0, 1, 0, -1))
        refuse(FREE, (0, 1, 0, 1, -1))
        refuse(FREE, (0, 1, 0, 2))
        refuse((1, -1, -1, -1), (0, 1, 0, 1))
        refuse((0, -1, -1, -1), (-1, 1, -1, 1))
        refuse((0, 0, 0, 0), (0, 0, 0, 0))
        # Wires that feed each other, but no holder feeds them.
        self.invalid('giving', -1, lets_sound, NET, HOLDERS, FREE, ('serves', (0, 0, 1, 1)))
        self.same(leads_on((0, 0, 1, 1), FREE), True)

    def test_errors(self):
        usable = {'net': NET, 'holders': HOLDERS, 'giving': FIRST}
        wrong = {'net': BAD_NETS, 'holders': BAD_HOLDERS, 'giving': BAD_GIVINGS}
        self.first_error(sound_paper, usable, wrong)
        self.first_error(lets_sound, {**usable, 'thing': None}, wrong)
        self.first_error(lets_sound, {**usable, 'thing': ('short', ('b',))}, wrong)
        with self.assertRaises(InvalidPaper):
            lets_sound(**usable, thing=None)


if __name__ == '__main__':
    unittest.main()
