"""(O6) of [9], [52], and what [54] says of losses."""

import unittest
from itertools import combinations

from allpieces.comings import lacking
from allpieces.gives import after_give, next_givings
from allpieces.givingchecker import lets_giving
from allpieces.losses import after_loss, strength, weakest
from allpieces.slacks import slack
from allpieces.soundness import is_sound
from allpieces.tight import needed_wires
from tests.checks import BAD_GIVINGS, BAD_HOLDERS, BAD_NETS, Case, faults
from tests.samples import (
    ANYTHING, APART, EQUAL, FIRST, FREE, GREAT, GREAT_HOLDERS, HOLDERS, NARROW, NET, ONE, ONE_HOUSE, SIDES, TWINS,
    VAIN, can_be_done, cases, sets_of, slow_lacked, slow_loss, slow_slack, slow_slacks, slow_sound, small_cases,
    sound_cases, wide_cases,
)

ALL = (0, 1, 0, 1)
ENDS_OF_EQUAL = (('a',), ('b',))
UNSOUND = faults('sound', (0, 0, -1, -1), VAIN)
BAD_WIRES = faults('wires', None, [1], 1, (0,), (1, 1), (2, 1), (4,), (-1,), (True,), (1, None), ('1',))


def free_wires(giving):
    """Return a list of the free wires."""
    return [wire for wire, piece in enumerate(giving) if piece == -1]


def losses_of(giving):
    """Yield each set of free wires."""
    free = free_wires(giving)
    for many in range(len(free) + 1):
        yield from combinations(free, many)


def slow_strength(net, holders, giving):
    """Return how many free wires can be lost, whichever they are, by trying all sets of them; None for all."""
    free = free_wires(giving)
    for many in range(len(free) + 1):
        if not all(slow_sound(*slow_loss(net, holders, giving, wires)) for wires in combinations(free, many)):
            return many - 1
    return None


def least_slack(net, holders, giving):
    """Return the least slack of the sets of which no house has some piece, None if there are none."""
    slacks = [
        slack for houses, slack in slow_slacks(net, holders, giving).items()
        if slow_lacked(net, holders, giving, houses)
    ]
    return min(slacks, default=None)


class StrengthTest(Case):

    def check(self, net, holders, giving):
        """Check strength and weakest by all sets, and return the first."""
        wanted = least_slack(net, holders, giving)
        self.same(strength(net, holders, giving), wanted)
        houses = weakest(net, holders, giving)
        if wanted is None:
            self.same(houses, None)
        else:
            self.assertIn(houses, list(sets_of(net[0])))
            self.same(slow_slack(net, holders, giving, houses), wanted)
            self.assertTrue(slow_lacked(net, holders, giving, houses))
        self.same(wanted is None, lacking(net, holders, giving) == ())
        return wanted

    def test_examples(self):
        self.both_ways(0, strength, net=NARROW, holders=ONE, giving=FREE)
        self.both_ways(('b', 'c'), weakest, net=NARROW, holders=ONE, giving=FREE)
        self.both_ways(None, strength, net=NET, holders=HOLDERS, giving=ALL)
        self.both_ways(1, strength, net=NET, holders=ONE, giving=FREE)
        self.check(NET, ONE, FREE)

    def test_nothing_lacked(self):
        for net, holders, giving in ((NET, (), FREE), (ONE_HOUSE, ONE, ()), (ONE_HOUSE, (), ()), (NET, HOLDERS, ALL),
                                     (APART, (('a', 'b', 'c'),), ()), (NET, ONE, VAIN), (NET, (NET[0],) * 2, FREE)):
            self.both_ways(None, strength, net=net, holders=holders, giving=giving)
            self.both_ways(None, weakest, net=net, holders=holders, giving=giving)

    def test_sets_that_lack_nothing_do_not_count(self):
        # No wire leads into a, which has all; three lead to b, which lacks one piece.
        net = (('a', 'b'), (('a', 'b'),) * 3)
        self.same(slow_slack(net, ONE, (-1,) * 3, ('a',)), 0)
        self.same(self.check(net, ONE, (-1,) * 3), 2)
        self.same(weakest(net, ONE, (-1,) * 3), ('b',))
        self.same(self.check(net, (('a',),) * 3, (-1,) * 3), 0)
        self.same(self.check(net, (('a',), ('a', 'b')), (-1,) * 3), 2)

    def test_much_slack(self):
        # Far more than all houses have together, which lack nothing.
        net = (('a', 'b', 'c'), (('a', 'b'),) * 10 + (('b', 'c'),) * 6)
        self.same(self.check((net[0][:2], net[1][:10]), (('a',), ('a', 'b'), ('a', 'b')), (-1,) * 10), 9)
        self.same(self.check(net, (('a',), ('a', 'b', 'c'), ('a', 'b', 'c'), ('a', 'b', 'c')), (-1,) * 16), 5)
        self.same(self.check(net, (('a', 'b'), ('a', 'b', 'c'), ('a', 'b', 'c')), (-1,) * 16), 5)

    def test_equal_wires(self):
        self.same(self.check(EQUAL, ENDS_OF_EQUAL, FREE), 0)
        self.same(self.check(EQUAL, ONE, FREE), 2)
        self.same(self.check(EQUAL, ONE, (-1, -1, -1, 0)), None)

    def test_strength_can_grow(self):
        # After wire 1 only b lacks the piece, into which two wires lead.
        net = (('a', 'b', 'c'), (('a', 'b'), ('a', 'c'), ('c', 'b')))
        self.same(self.check(net, ONE, (-1, -1, -1)), 0)
        self.same(self.check(net, ONE, (-1, 0, -1)), 1)
        self.same(self.check(net, ONE, (0, 0, -1)), None)

    def test_all_sets_of_lost_wires(self):
        found = set()
        for net, holders, giving in sound_cases(small_cases()):
            wanted = self.check(net, holders, giving)
            self.same(slow_strength(net, holders, giving), wanted)
            found.add(wanted)
        self.assertLess({None, 0, 1, 2}, found)

    def test_wide_nets(self):
        found = set()
        for net, holders, giving in sound_cases(wide_cases()):
            many = self.check(net, holders, giving)
            found.add(many)
            if many is not None:
                houses = weakest(net, holders, giving)
                into = [wire for wire in free_wires(giving) if net[1][wire][1] in houses and net[1][wire][0] not in houses]
                self.assertTrue(slow_sound(*slow_loss(net, holders, giving, into[:many])))
                self.assertFalse(slow_sound(*slow_loss(net, holders, giving, into[:many + 1])))
        self.assertLess({None, 0, 1, 2, 3}, found)

    def test_the_greatest_net(self):
        self.same(self.check(GREAT, GREAT_HOLDERS, (-1,) * 16), 0)
        free = (-1,) * 16
        self.same(self.check((('a', 'b'), (('a', 'b'),) * 16), (('a',),) * 4, free), 12)
        self.same(self.check((('a', 'b'), (('a', 'b'),) * 16), ONE, free), 15)

    def test_errors(self):
        usable = {'net': NET, 'holders': HOLDERS, 'giving': FIRST}
        wrong = {'net': BAD_NETS, 'holders': BAD_HOLDERS, 'giving': BAD_GIVINGS + UNSOUND}
        for function in (strength, weakest):
            self.first_error(function, usable, wrong)
            self.unusable('sound', -1, function, TWINS, SIDES, FREE)
            for value in ANYTHING:
                if value != FREE:
                    self.unusable('giving', -1, function, NET, HOLDERS, value)

    def test_for_sound_givings_only(self):
        for net, holders, giving in (*small_cases(), *wide_cases()):
            if not slow_sound(net, holders, giving):
                self.unusable('sound', -1, strength, net, holders, giving)
                self.unusable('sound', -1, weakest, net, holders, giving)


class AfterLossTest(Case):

    def test_example(self):
        wanted = ((('a', 'b', 'c'), (('a', 'b'), ('a', 'c'), ('c', 'b'))), HOLDERS, (0, -1, -1))
        self.both_ways(wanted, after_loss, net=NET, holders=HOLDERS, giving=FIRST, wires=(2,))
        self.unusable('wires', -1, after_loss, NET, HOLDERS, FIRST, (0,))

    def test_no_wires_and_all(self):
        self.same(after_loss(NET, HOLDERS, FIRST, ()), (NET, HOLDERS, FIRST))
        self.same(after_loss(NET, HOLDERS, FIRST, (1, 2, 3)), ((NET[0], (('a', 'b'),)), HOLDERS, (0,)))
        self.same(after_loss(NET, HOLDERS, FREE, (0, 1, 2, 3)), ((NET[0], ()), HOLDERS, ()))
        self.same(after_loss(NET, HOLDERS, VAIN, ()), (NET, HOLDERS, VAIN))
        self.same(after_loss(ONE_HOUSE, (), (), ()), (ONE_HOUSE, (), ()))

    def test_all_sets_of_wires(self):
        for net, holders, giving in small_cases():
            for wires in losses_of(giving):
                wanted = slow_loss(net, holders, giving, wires)
                self.same(after_loss(net, holders, giving, wires), wanted)
                self.same(lets_giving(*wanted), lets_giving(net, holders, giving))

    def test_wide_nets(self):
        for net, holders, giving in wide_cases():
            free = free_wires(giving)
            for wires in (tuple(free), tuple(free[::2]), tuple(free[-3:])):
                self.same(after_loss(net, holders, giving, wires), slow_loss(net, holders, giving, wires))

    def test_sound_or_not(self):
        self.same(after_loss(TWINS, SIDES, FREE, (3,)), ((TWINS[0], TWINS[1][:3]), SIDES, FREE[:3]))
        self.same(after_loss(NET, HOLDERS, VAIN, ()), (NET, HOLDERS, VAIN))

    def test_errors(self):
        usable = {'net': NET, 'holders': HOLDERS, 'giving': FIRST, 'wires': (1, 3)}
        wrong = {'net': BAD_NETS, 'holders': BAD_HOLDERS, 'giving': BAD_GIVINGS, 'wires': BAD_WIRES}
        self.first_error(after_loss, usable, wrong)

    def test_what_is_no_set_of_free_wires(self):
        for value in ANYTHING:
            if value != ():
                self.unusable('wires', -1, after_loss, NET, HOLDERS, FIRST, value)
            if repr(value) != '1':
                self.unusable('wires', -1, after_loss, NET, HOLDERS, (0, -1, 0, 0), (value,))
                self.unusable('wires', -1, after_loss, NET, HOLDERS, (0, -1, 0, 0), (1, value))
        for net, holders, giving in [*cases()][::9]:
            for wire, piece in enumerate(giving):
                if piece != -1:
                    self.unusable('wires', -1, after_loss, net, holders, giving, (wire,))
                    self.unusable('wires', -1, after_loss, net, holders, giving, (*range(wire), wire))


class LossConsequencesTest(Case):

    def test_a_loss_and_rows_of_next_givings(self):
        for net, holders, giving in [*sound_cases(small_cases())][::4]:
            most = strength(net, holders, giving)
            done = {}
            for wires in losses_of(giving):
                done.setdefault(len(wires), []).append(can_be_done(*slow_loss(net, holders, giving, wires)))
            for many, each in done.items():
                self.same(all(each), most is None or many <= most)

    def test_the_loss_of_one_wire(self):
        for net, holders, giving in sound_cases((*small_cases(), *wide_cases())):
            needed = needed_wires(net, holders, giving)
            for wire in free_wires(giving):
                self.same(is_sound(*after_loss(net, holders, giving, (wire,))), wire not in needed)
            if strength(net, holders, giving) != 0:
                self.same(needed, ())

    def test_slacks_change_by_0_or_less_by_1(self):
        for net, holders, giving in [*small_cases()][::3]:
            lates = [after_loss(net, holders, giving, (wire,)) for wire in free_wires(giving)]
            lates += [(net, holders, after_give(net, holders, giving, *pair)) for pair in next_givings(net, holders, giving)]
            for late in lates:
                for houses in sets_of(net[0]):
                    self.assertIn(slack(*late, houses) - slow_slack(net, holders, giving, houses), (0, -1))
                self.assertTrue(is_sound(net, holders, giving) or not is_sound(*late))


if __name__ == '__main__':
    unittest.main()
