"""[7], [33], [34]: sets of houses."""

import unittest

from allpieces.gives import after_give, next_givings
from allpieces.netchanges import without_wire
from allpieces.slacks import into_count, is_short, is_tight, lacked, slack
from tests.checks import BAD_GIVINGS, BAD_HOLDERS, BAD_HOUSES, BAD_NETS, Case
from tests.samples import (
    ANYTHING, APART, FIRST, FREE, HOLDERS, NET, ONE, ONE_HOUSE, SIDES, TWINS, VAIN, cases, sets_of, slow_having,
    slow_lacked, slow_slack, small_cases, wide_cases,
)

FUNCTIONS = (into_count, lacked, slack, is_short, is_tight)
SPENT = (0, 0, -1, -1)


class SlacksTest(Case):

    def test_examples(self):
        named = {'net': NET, 'holders': HOLDERS, 'giving': FIRST, 'houses': ('b', 'c')}
        self.both_ways(1, into_count, **named)
        self.both_ways((1,), lacked, **named)
        self.both_ways(0, slack, **named)
        self.both_ways(True, is_tight, **named)
        self.both_ways(False, is_short, **named)

    def test_more_examples(self):
        self.same(slack(NET, HOLDERS, FREE, ('a', 'b')), 1)
        self.same(slack(NET, HOLDERS, SPENT, ('b', 'c')), -1)
        self.same(is_short(NET, HOLDERS, SPENT, ('b',)), False)
        self.same(is_short(NET, HOLDERS, SPENT, ('b', 'c')), True)
        self.same(slack(NET, HOLDERS, FREE, ('a', 'b', 'c')), 0)
        self.same(is_tight(NET, HOLDERS, FREE, ('a', 'b', 'c')), False)
        self.same(is_tight(NET, HOLDERS, FREE, ('c',)), True)
        self.unusable('houses', -1, slack, NET, HOLDERS, FREE, ())

    def test_a_single_house_need_not_fall_short(self):
        self.same([slack(TWINS, SIDES, FREE, (house,)) for house in TWINS[0]], [0, 0, 0, 0])
        self.same(slack(TWINS, SIDES, FREE, ('a', 'b')), -1)

    def test_no_slack_and_nothing_lacked_is_not_tight(self):
        self.same(slack(APART, (('a',),), (), ('a',)), 0)
        self.same(is_tight(APART, (('a',),), (), ('a',)), False)
        self.same(is_tight(NET, (), FREE, ('a',)), False)
        self.same(slack(ONE_HOUSE, (), (), ('a',)), 0)

    def test_wires_that_are_given_in_vain_are_not_free(self):
        self.same(into_count(NET, HOLDERS, VAIN, ('b',)), 0)
        self.same(lacked(NET, HOLDERS, VAIN, ('b', 'c')), (1,))
        self.same(slack(NET, HOLDERS, VAIN, ('b', 'c')), -1)

    def test_plain_answers(self):
        for net, holders, giving in (*small_cases(), *wide_cases()):
            for houses in sets_of(net[0]):
                wanted = slow_slack(net, holders, giving, houses)
                short = slow_lacked(net, holders, giving, houses)
                self.same(lacked(net, holders, giving, houses), short)
                self.same(into_count(net, holders, giving, houses), wanted + len(short))
                self.same(slack(net, holders, giving, houses), wanted)
                self.same(is_short(net, holders, giving, houses), wanted < 0)
                self.same(is_tight(net, holders, giving, houses), wanted == 0 and short != ())

    def test_errors(self):
        usable = {'net': NET, 'holders': HOLDERS, 'giving': FIRST, 'houses': ('b', 'c')}
        wrong = {'net': BAD_NETS, 'holders': BAD_HOLDERS, 'giving': BAD_GIVINGS[:3], 'houses': BAD_HOUSES[:4]}
        for function in FUNCTIONS:
            self.first_error(function, usable, wrong)

    def test_any_value(self):
        usable = list(sets_of(NET[0]))
        for function in FUNCTIONS:
            for value in ANYTHING:
                if value not in usable:
                    self.unusable('houses', -1, function, NET, HOLDERS, FIRST, value)
                if value != FREE:
                    self.unusable('giving', -1, function, NET, HOLDERS, value, value)
        for value in (('c', 'b'), ['b', 'c'], ('b', 'b'), ('b', 'c', 'd'), ('b', True), 'bc', {'b': True}):
            self.unusable('houses', -1, is_short, NET, HOLDERS, FIRST, value)


class SlacksConsequencesTest(Case):

    def test_all_houses(self):
        for net, holders, giving in (*small_cases(), *wide_cases()):
            self.same(slack(net, holders, giving, net[0]), 0)
            self.same(is_tight(net, holders, giving, net[0]), False)

    def test_two_sets(self):
        for net, holders, giving in small_cases():
            sets = list(sets_of(net[0]))
            for one in sets:
                for two in sets:
                    shared = tuple(house for house in one if house in two)
                    if not shared:
                        continue
                    both = tuple(sorted({*one, *two}))
                    apart = slow_slack(net, holders, giving, one) + slow_slack(net, holders, giving, two)
                    joint = slow_slack(net, holders, giving, both) + slow_slack(net, holders, giving, shared)
                    self.assertLessEqual(joint, apart)
                    if shared == one:
                        self.assertLessEqual(set(slow_lacked(net, holders, giving, two)),
                                             set(lacked(net, holders, giving, one)))

    def test_a_next_giving_changes_a_slack_by_0_or_1(self):
        for net, holders, giving in cases():
            for wire, piece in next_givings(net, holders, giving):
                late = after_give(net, holders, giving, wire, piece)
                for houses in sets_of(net[0]):
                    before = slack(net, holders, giving, houses)
                    self.assertIn(slack(net, holders, late, houses) - before, (0, -1))

    def test_a_free_wire_less_changes_a_slack_by_0_or_1(self):
        for net, holders, giving in cases():
            for wire in [wire for wire, piece in enumerate(giving) if piece == -1]:
                less = without_wire(net, wire)
                left = giving[:wire] + giving[wire + 1:]
                for houses in sets_of(net[0]):
                    before = slack(net, holders, giving, houses)
                    self.assertIn(slack(less, holders, left, houses) - before, (0, -1))

    def test_what_the_samples_hold(self):
        # Guards the samples: they have short, tight and slack sets, and wires in vain.
        slacks = [slow_slack(*case, houses) for case in small_cases() for houses in sets_of(case[0][0])]
        self.assertTrue({-2, -1, 0, 1, 2} <= set(slacks))
        self.assertTrue(any(
            sum(map(len, slow_having(*case))) - sum(map(len, case[1])) < len(case[2]) - case[2].count(-1)
            for case in small_cases()
        ))
        self.same(slack(NET, ONE, FREE, ('b', 'c')), 1)


if __name__ == '__main__':
    unittest.main()
