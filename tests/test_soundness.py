"""(O1) of [9], [38], [40]: sound givings."""

import unittest

from allpieces.alone import alone_number
from allpieces.comings import serves
from allpieces.gives import after_give, after_gives, next_givings
from allpieces.givingchecker import lets_giving
from allpieces.soundchecker import lets_sound
from allpieces.soundness import is_sound, lead_on, short_set
from allpieces.soundpapers import sound_paper
from tests.checks import BAD_GIVINGS, BAD_HOLDERS, BAD_NETS, Case
from tests.samples import (
    ANYTHING, APART, EQUAL, FIRST, FREE, HOLDERS, NET, ONE, ONE_HOUSE, SIDES, TWINS, VAIN, cases, courses, is_giving,
    leads_on, sets_of, slow_leads, slow_slack, slow_slacks, slow_sound, small_cases, wide_cases,
)

FUNCTIONS = (is_sound, short_set, lead_on)
SPENT = (0, 0, -1, -1)


class SoundnessTest(Case):

    def check(self, net, holders, giving):
        """Check the three functions by all sets, and return whether the giving is sound."""
        sound = slow_sound(net, holders, giving)
        self.same(is_sound(net, holders, giving), sound)
        houses = short_set(net, holders, giving)
        late = lead_on(net, holders, giving)
        if sound:
            self.same(houses, None)
            self.assertIsInstance(late, tuple)
            lets_giving(net, holders, late)
            self.assertTrue(leads_on(late, giving))
            self.assertTrue(serves(net, holders, late))
        else:
            self.same(late, None)
            self.assertIn(houses, list(sets_of(net[0])))
            self.assertLess(slow_slack(net, holders, giving, houses), 0)
        return sound

    def test_examples(self):
        named = {'net': NET, 'holders': HOLDERS}
        self.both_ways(True, is_sound, **named, giving=FREE)
        self.both_ways((0, 1, 0, 1), lead_on, **named, giving=FIRST)
        self.both_ways(None, short_set, **named, giving=FIRST)
        self.both_ways(False, is_sound, **named, giving=SPENT)
        self.both_ways(None, lead_on, **named, giving=SPENT)
        self.both_ways(('b', 'c'), short_set, **named, giving=SPENT)

    def test_no_single_house_falls_short(self):
        self.same(is_sound(TWINS, SIDES, FREE), False)
        self.same([slow_slack(TWINS, SIDES, FREE, (house,)) for house in TWINS[0]], [0, 0, 0, 0])
        self.assertIn(short_set(TWINS, SIDES, FREE), (('a', 'b'), ('c', 'd')))
        self.same(lead_on(TWINS, SIDES, FREE), None)

    def test_givings_that_serve(self):
        for net, holders, giving in cases():
            if serves(net, holders, giving):
                self.same(is_sound(net, holders, giving), True)
                self.same(lead_on(net, holders, giving), giving)
        self.same(lead_on(ONE_HOUSE, (('a',),), ()), ())
        self.same(lead_on(NET, (), FREE), FREE)

    def test_pieces_with_several_holders(self):
        self.same(is_sound(APART, (('a', 'b', 'c'),), ()), True)
        self.same(short_set(APART, (('a', 'c'),), ()), ('b',))
        self.same(lead_on(NET, (('a', 'b'), ('a', 'c')), FREE), (1, 0, -1, -1))
        self.check(EQUAL, (('a', 'b'), ('a',), ('b',), ('a',)), FREE)

    def test_wires_in_vain(self):
        self.same(is_sound(NET, HOLDERS, VAIN), False)
        self.same(is_sound(NET, ONE, VAIN), True)
        self.same(lead_on(NET, ONE, VAIN), VAIN)

    def test_small_nets(self):
        sound = 0
        for net, holders, giving in small_cases():
            sound += self.check(net, holders, giving)
            leads = slow_leads(net, holders, giving)
            self.same(is_sound(net, holders, giving), leads != [])
            if leads:
                self.assertIn(lead_on(net, holders, giving), leads)
        self.assertGreater(sound, 100)

    def test_all_rows_of_next_givings(self):
        for net, holders, giving in cases():
            ends = [after_gives(net, holders, giving, pairs) for pairs in courses(net, holders, giving)]
            self.same(is_sound(net, holders, giving), any(serves(net, holders, late) for late in ends))
            if is_sound(net, holders, giving):
                self.assertIn(lead_on(net, holders, giving), ends)

    def test_wide_nets(self):
        sound = 0
        for net, holders, giving in wide_cases():
            sound += self.check(net, holders, giving)
        self.assertGreater(sound, 50)

    def test_the_greatest_net(self):
        houses = ('a', 'b', 'c', 'd', 'e', 'f')
        ends = (('a', 'b'), ('b', 'c'), ('c', 'd'), ('d', 'e'), ('e', 'f'))
        self.check((houses, ends * 3), (('a',),) * 3, (-1,) * 15)
        self.check((houses, ends * 3), (('a',),) * 4, (-1,) * 15)
        self.check((houses, (*ends * 3, ('e', 'f'))), (('a',),) * 3, (-1,) * 16)
        self.check((houses, (*ends * 3, ('a', 'b'))), (('b',),) * 3, (-1,) * 16)

    def test_errors(self):
        usable = {'net': NET, 'holders': HOLDERS, 'giving': FIRST}
        wrong = {'net': BAD_NETS, 'holders': BAD_HOLDERS, 'giving': BAD_GIVINGS}
        for function in FUNCTIONS:
            self.first_error(function, usable, wrong)
            for value in ANYTHING:
                if value != FREE:
                    self.unusable('giving', -1, function, NET, HOLDERS, value)


class SoundnessConsequencesTest(Case):

    def test_all_the_same(self):
        for net, holders, giving in (*small_cases(), *wide_cases()):
            sound = is_sound(net, holders, giving)
            self.same(short_set(net, holders, giving) is None, sound)
            self.same(lead_on(net, holders, giving) is not None, sound)
            self.same(lets_sound(net, holders, giving, sound_paper(net, holders, giving)), sound)
            numbers = [alone_number(net, holders, giving, house) for house in net[0]]
            self.same(numbers == [len(holders)] * len(net[0]), sound)
            self.same(min(slow_slacks(net, holders, giving).values()) == 0, sound)

    def test_a_giving_from_which_a_sound_one_leads_on_is_sound(self):
        for net, holders, giving in cases():
            for pair in next_givings(net, holders, giving):
                if is_sound(net, holders, after_give(net, holders, giving, *pair)):
                    self.same(is_sound(net, holders, giving), True)
        for net, holders, giving in cases():
            for wire in [wire for wire, piece in enumerate(giving) if piece != -1]:
                less = (*giving[:wire], -1, *giving[wire + 1:])
                if is_sound(net, holders, giving) and is_giving(net, holders, less):
                    self.same(is_sound(net, holders, less), True)


if __name__ == '__main__':
    unittest.main()
