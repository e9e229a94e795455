"""(O4) of [9], [46], [47]: tight sets, and the wires that are needed."""

import unittest

from allpieces.netchanges import without_wire
from allpieces.slacks import is_tight
from allpieces.soundness import is_sound
from allpieces.tight import least_tight, needed_wires
from tests.checks import BAD_GIVINGS, BAD_HOLDERS, BAD_HOUSE, BAD_NETS, Case, faults
from tests.samples import (
    ANYTHING, APART, FIRST, FREE, GREAT, GREAT_HOLDERS, HOLDERS, NARROW, NET, ONE, ONE_HOUSE, SIDES, TWINS, VAIN,
    cases, sets_of, slow_lacked, slow_leads, slow_slack, slow_sound, small_cases, sound_cases, wide_cases,
)


def slow_tight(net, holders, giving):
    """Return a list of all tight sets."""
    return [
        houses for houses in sets_of(net[0])
        if slow_slack(net, holders, giving, houses) == 0 and slow_lacked(net, holders, giving, houses)
    ]


class TightTest(Case):

    def test_examples(self):
        named = {'net': NET, 'holders': HOLDERS, 'giving': FREE}
        for house, wanted in (('a', None), ('b', ('b',)), ('c', ('c',))):
            self.both_ways(wanted, least_tight, **named, house=house)
        self.both_ways((0, 1, 2, 3), needed_wires, **named)
        self.same(least_tight(NARROW, ONE, FREE, 'b'), ('b', 'c'))
        self.same(least_tight(NARROW, ONE, FREE, 'c'), ('b', 'c'))
        self.both_ways((0,), needed_wires, net=NARROW, holders=ONE, giving=FREE)
        self.unusable('sound', -1, least_tight, NARROW, HOLDERS, FREE, 'b')

    def test_nothing_lacked(self):
        for net, holders, giving in ((NET, (), FREE), (ONE_HOUSE, ONE, ()), (APART, (('a', 'b', 'c'),), ()),
                                     (NET, HOLDERS, (0, 1, 0, 1)), (NET, ONE, VAIN)):
            for house in net[0]:
                self.same(least_tight(net, holders, giving, house), None)
            self.same(needed_wires(net, holders, giving), ())

    def test_a_house_with_no_slack_that_lacks_nothing(self):
        # The set of a alone has slack 0, and is not tight; b is.
        net = (('a', 'b'), (('a', 'b'),))
        self.same([least_tight(net, ONE, (-1,), house) for house in net[0]], [None, ('b',)])
        self.same(needed_wires(net, ONE, (-1,)), (0,))

    def test_the_greatest_net(self):
        free = (-1,) * 16
        self.same(needed_wires(GREAT, GREAT_HOLDERS, free), tuple(range(16)))
        self.same(least_tight(GREAT, GREAT_HOLDERS, free, 'e'), ('e',))
        self.unusable('sound', -1, needed_wires, GREAT, (('a',), *GREAT_HOLDERS[1:]), free)

    def test_all_sets(self):
        for net, holders, giving in sound_cases((*small_cases(), *wide_cases())):
            tight = slow_tight(net, holders, giving)
            for house in net[0]:
                mine = [houses for houses in tight if house in houses]
                wanted = tuple(sorted(set.intersection(*map(set, mine)))) if mine else None
                self.same(least_tight(net, holders, giving, house), wanted)
                self.assertTrue(wanted is None or wanted in mine)

    def test_all_givings_that_serve(self):
        some = 0
        for net, holders, giving in sound_cases(small_cases()):
            leads = slow_leads(net, holders, giving)
            free = [wire for wire, piece in enumerate(giving) if piece == -1]
            wanted = tuple(wire for wire in free if all(late[wire] != -1 for late in leads))
            self.same(needed_wires(net, holders, giving), wanted)
            some += wanted not in ((), tuple(free))
        self.assertGreater(some, 10)

    def test_errors(self):
        usable = {'net': NET, 'holders': HOLDERS, 'giving': FIRST}
        unsound = faults('sound', (0, 0, -1, -1), VAIN, (0, 0, 0, 0))
        wrong = {'net': BAD_NETS, 'holders': BAD_HOLDERS, 'giving': BAD_GIVINGS + unsound}
        self.first_error(needed_wires, usable, wrong)
        self.first_error(least_tight, {**usable, 'house': 'b'}, {**wrong, 'house': BAD_HOUSE})
        for value in ANYTHING:
            if value not in NET[0]:
                self.unusable('house', value, least_tight, NET, HOLDERS, FIRST, value)
                self.unusable('sound', -1, least_tight, NET, HOLDERS, VAIN, value)
        for house in TWINS[0]:
            self.unusable('sound', -1, least_tight, TWINS, SIDES, FREE, house)

    def test_for_sound_givings_only(self):
        for net, holders, giving in (*small_cases(), *wide_cases()):
            if not slow_sound(net, holders, giving):
                self.unusable('sound', -1, needed_wires, net, holders, giving)
                self.unusable('sound', -1, least_tight, net, holders, giving, net[0][-1])


class TightConsequencesTest(Case):

    def test_what_two_tight_sets_share_is_tight(self):
        for net, holders, giving in sound_cases((*small_cases(), *wide_cases())):
            tight = slow_tight(net, holders, giving)
            for one in tight:
                for two in tight:
                    shared = tuple(house for house in one if house in two)
                    if shared:
                        self.same(is_tight(net, holders, giving, shared), True)

    def test_both_together_need_not_be_tight(self):
        net = (('a', 'b', 't'), (('a', 't'), ('b', 't'), ('t', 'a'), ('t', 'b')))
        holders = (('a',), ('b',))
        self.same([is_tight(net, holders, FREE, houses) for houses in (('a', 't'), ('b', 't'), net[0])],
                  [True, True, False])
        self.same([least_tight(net, holders, FREE, house) for house in net[0]], [('a',), ('b',), ('t',)])
        self.same(needed_wires(net, holders, FREE), (0, 1, 2, 3))

    def test_needed_wires_lead_into_tight_sets(self):
        for net, holders, giving in sound_cases((*small_cases(), *wide_cases())):
            tight = slow_tight(net, holders, giving)
            wanted = tuple(
                wire for wire, (source, target) in enumerate(net[1])
                if giving[wire] == -1 and any(target in houses and source not in houses for houses in tight)
            )
            self.same(needed_wires(net, holders, giving), wanted)

    def test_the_loss_of_a_wire_that_is_needed_does_harm(self):
        for net, holders, giving in sound_cases(cases()):
            needed = needed_wires(net, holders, giving)
            for wire in [wire for wire, piece in enumerate(giving) if piece == -1]:
                left = giving[:wire] + giving[wire + 1:]
                self.same(is_sound(without_wire(net, wire), holders, left), wire not in needed)


if __name__ == '__main__':
    unittest.main()
