"""[66], [68]: class Guarded, and the consequences of spreads."""

import unittest
from itertools import combinations

from allpieces.errors import Barred
from allpieces.further import fewest_further
from allpieces.guarded import Guarded
from allpieces.guarding import let_givings
from allpieces.losses import strength
from allpieces.soundness import is_sound
from allpieces.spreads import Spread
from allpieces.tight import needed_wires
from tests.checks import BAD_HOLDERS, BAD_NETS, Case
from tests.samples import APART, HOLDERS, NET, SIDES, TWINS, Dice, sets_of, slow_slack
from tests.spreading import (
    FULL, ONE_MORE, WIDE, WIDE_HOLDERS, Rows, Slow, all_events, spread_after, starts, told, wanted,
)


class GuardedTest(Case):

    def test_examples(self):
        guarded = Guarded(NET, HOLDERS)
        found = [
            guarded.give(0, 0), guarded.barred(('give', 1, 0)), guarded.give(1, 1), guarded.barred(('lose', 2)),
            guarded.lay(0, 'c'), guarded.lose(2),
        ]
        self.same(found, ['going', 'short', 'going', 'short', 'going', 'going'])
        left = ((('a', 'b', 'c'), (('a', 'b'), ('a', 'c'), ('c', 'b'))), (('a', 'c'), ('a',)), (0, 1, -1))
        self.same(guarded.left_case(), left)
        self.bars(('give', 1, 0), ('b', 'c'), Guarded(NET, HOLDERS).do_all, ('give', 0, 0), ('give', 1, 0))

    def test_it_is_a_spread(self):
        self.assertEqual(Guarded.__bases__, (Spread,))
        self.same(Guarded.MOST, 24)
        for net, holders in starts():
            guarded = Guarded(net=net, holders=holders)
            self.same(told(guarded), wanted(Slow(net, holders)))
            self.same(guarded.tally(), (0, 0))
        self.first_error(Guarded, {'net': NET, 'holders': HOLDERS}, {'net': BAD_NETS, 'holders': BAD_HOLDERS})

    def test_barred_in_each_way(self):
        guarded = spread_after(('give', 0, 0), shape=Guarded)
        before = told(guarded)
        calls = [
            (guarded.give, (1, 0)), (guarded.apply, (('give', 1, 0),)), (guarded, (('give', 1, 0),)),
            (guarded.tried, (('give', 1, 0),)), (guarded.do_all, (('give', 1, 0), None)),
        ]
        for call, args in calls:
            self.bars(('give', 1, 0), ('b', 'c'), call, *args)
        self.bars(('lose', 1), ('b', 'c'), guarded.lose, 1)
        self.bars(('lose', 1), ('b', 'c'), guarded.lose, wire=1)
        event = ('lose', 1)
        self.assertIs(self.bars(event, ('b', 'c'), guarded.apply, event).event, event)
        self.same(guarded.barred(event=event), 'short')
        self.same(told(guarded), before)
        self.same(guarded.tally(), (8, 8))

    def test_the_reasons_of_spreads_come_first(self):
        guarded = Guarded(TWINS, SIDES)
        # Each give and lose would leave sets that fall short.
        rows = ((None, 'shape'), (('lose', -1), 'shape'), (('lose', 4), 'wire'), (('give', 0, 1), 'piece'),
                (('give', 0, 2), 'piece'), (('give', 0, 0), 'has'), (('lay', 0, 'a'), 'house'))
        for event, reason in rows:
            self.same(guarded.barred(event), reason)
            self.refuses(event, reason, guarded.apply, event)
        self.same(guarded.barred(('lose', 0)), 'short')
        self.same(guarded.barred(('lay', 0, 'c')), None)
        guarded.shut()
        self.refuses(('lose', 0), 'closed', guarded.lose, 0)
        self.same(guarded.barred(('lose', 0)), 'closed')

    def test_full(self):
        guarded = Guarded(WIDE, (WIDE[0],) * 4)
        self.same(guarded.do_all(*[('lose', wire) for wire in range(16)]), 16)
        short = spread_after(*FULL[16:], net=WIDE, holders=WIDE_HOLDERS, shape=Guarded)
        self.same([len(short), short.barred(('lose', 0)), short.barred(ONE_MORE)], [8, 'short', None])
        more = [('lay', piece, house) for piece in range(4) for house in ('b', 'c', 'd', 'e', 'f')][8:]
        self.same([short.do_all(*more), short.state(), len(short)], [12, 'all', 20])
        self.same(short.do_all(*[('lose', wire) for wire in range(4)]), 4)
        self.refuses(('lose', 4), 'full', short.lose, 4)
        self.same(short.undo(), ('lose', 3))
        self.same(short.lose(4), 'all')

    def test_short_from_the_beginning(self):
        for net, holders in ((TWINS, SIDES), (APART, (('a',),)), (NET, (('b',), ('c',)))):
            guarded = Guarded(net, holders)
            self.same(guarded.state(), 'short')
            for event in all_events(net, holders):
                if event[0] != 'lay':
                    self.assertIsNotNone(guarded.barred(event))
        guarded = Guarded(TWINS, SIDES)
        self.same([guarded.lay(0, 'c'), guarded.barred(('lose', 0)), guarded.barred(('give', 2, 0))], ['short'] * 3)
        self.same([guarded.lay(1, 'a'), guarded.give(2, 0), guarded.barred(('lose', 0))], ['going', 'going', 'short'])
        self.same([guarded.give(0, 1), guarded.lose(1), guarded.lose(3)], ['all'] * 3)

    def test_do_all(self):
        events = (('give', 0, 0), ('lay', 1, 'b'), ('give', 1, 0), ('lose', 3))
        for keep in (False, True):
            guarded = Guarded(NET, HOLDERS)
            with self.assertRaises(Barred):
                guarded.do_all(*events, ('lose', 2), keep=keep)
            self.same(list(guarded), [*events] if keep else [])
            self.same(guarded.tally(), (1, 1))

    def test_with(self):
        guarded = Guarded(NET, HOLDERS)
        with self.assertRaises(Barred):
            with guarded as same:
                self.assertIs(same, guarded)
                same.do_all(('give', 0, 0), ('give', 1, 0), keep=True)
        self.same([guarded.is_shut, list(guarded)], [True, [('give', 0, 0)]])

    def test_methods_of_its_own(self):
        for name in ('__init__', 'barred'):
            self.assertIn(name, vars(Guarded))


class GuardedRowsTest(Rows, Case):

    shape, guarded = Guarded, True


class SpreadConsequencesTest(Case):

    def rows(self, shape):
        """Yield a spread ahead of each of some events that can be made, and the event."""
        dice = Dice(23)
        for net, holders in starts():
            spread = shape(net, holders)
            events = all_events(net, holders)
            for _ in range(12):
                possible = [event for event in events if spread.barred(event) is None]
                if not possible:
                    break
                event = possible[dice.throw(len(possible))]
                yield spread, event
                spread.apply(event)

    def test_slacks(self):
        for spread, event in self.rows(Spread):
            early = spread.left_case()
            late = Spread(spread.net, spread.log()[0][2])
            late.do_all(*spread, event)
            for houses in sets_of(spread.net[0]):
                more = slow_slack(*late.left_case(), houses) - slow_slack(*early, houses)
                self.assertIn(more, (0, 1) if event[0] == 'lay' else (0, -1))
            come = sum(map(len, late.having)) - sum(map(len, spread.having))
            self.same(come, 0 if event[0] == 'lose' else 1)

    def test_short_stays(self):
        for spread, event in self.rows(Spread):
            self.same(spread.state() == 'short', not is_sound(*spread.left_case()))
            if spread.state() == 'short' and event[0] != 'lay':
                self.same(spread.tried(event)[2], 'short')

    def test_the_fewest_copies_that_are_enough(self):
        found = []
        for spread, _ in self.rows(Spread):
            copies = [
                ('lay', piece, house) for piece, have in enumerate(spread.having)
                for house in spread.net[0] if house not in have
            ]
            many = sum(fewest_further(*spread.left_case()))
            self.same(many > 0, spread.state() == 'short')
            if 0 < many and len(copies) < 8:
                found.append(many)
                states = [spread.tried(*some)[2] for some in combinations(copies, many - 1)]
                self.assertEqual(set(states), {'short'})
                states = [spread.tried(*some)[2] for some in combinations(copies, many)]
                self.assertTrue({'going', 'all'} & set(states))
        self.assertGreater(len(found), 30)
        self.assertLess({1, 2, 3}, set(found))

    def test_a_guarded_one_is_never_short_if_it_was_not_at_first(self):
        dice = Dice(29)
        for net, holders in starts():
            guarded = Guarded(net, holders)
            if guarded.state() == 'short':
                continue
            for _ in range(24):
                self.assertIn(guarded.state(), ('going', 'all'))
                gives = [event for event in all_events(net, holders) if event[0] == 'give']
                gives = [event for event in gives if guarded.barred(event) is None]
                self.same(gives != [], guarded.state() == 'going')
                let = let_givings(*guarded.left_case())
                kept = [wire for wire in range(len(net[1])) if wire not in guarded.lost]
                self.assertEqual([event[1:] for event in gives], [(kept[wire], piece) for wire, piece in let])
                possible = [event for event in all_events(net, holders) if guarded.barred(event) is None]
                if not possible:
                    break
                guarded.apply(possible[dice.throw(len(possible))])

    def test_wires_that_cannot_be_lost(self):
        for guarded, _ in self.rows(Guarded):
            net, holders, giving = guarded.left_case()
            if guarded.state() == 'short':
                continue
            needed = needed_wires(net, holders, giving)
            kept = [wire for wire in range(len(guarded.net[1])) if wire not in guarded.lost]
            for k, wire in enumerate(kept):
                if giving[k] == -1:
                    self.same(guarded.barred(('lose', wire)), 'short' if k in needed else None)
                    if k in needed:
                        with self.assertRaises(Barred):
                            guarded.tried(('lose', wire))
            if strength(net, holders, giving) != 0:
                self.assertEqual(needed, ())

    def test_a_short_one_refuses_each_give_and_lose(self):
        some = 0
        for guarded, _ in self.rows(Guarded):
            if guarded.state() == 'short':
                some += 1
                for event in all_events(guarded.net, guarded.holders):
                    if event[0] != 'lay':
                        self.assertIsNotNone(guarded.barred(event))
        self.assertGreater(some, 10)

    def test_what_a_guarded_one_made_can_be_made_again(self):
        for guarded, event in self.rows(Guarded):
            other = Guarded(guarded.net, guarded.log()[0][2])
            self.same(other.do_all(*guarded), len(guarded))
            self.same(other == guarded, True)


if __name__ == '__main__':
    unittest.main()
