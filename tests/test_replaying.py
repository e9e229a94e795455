"""[69], and what [72] says of spreads that are replayed."""

import unittest

from allpieces.errors import InvalidEvent
from allpieces.guarded import Guarded
from allpieces.replaying import replayed
from allpieces.spreads import Spread
from tests.checks import Case
from tests.samples import ANYTHING, HOLDERS, NET, SIDES, TWINS, Dice, changed
from tests.spreading import (
    FULL, ONE_MORE, WIDE, WIDE_HOLDERS, Slow, all_events, spread_after, starts, told, wanted,
)

HEAD = ('spread', NET, HOLDERS)
LOG = (HEAD, ('give', 0, 0), ('lay', 1, 'c'))


class ReplayedTest(Case):

    def test_a_log(self):
        for spread in (replayed(LOG), replayed(log=LOG)):
            self.assertIs(type(spread), Spread)
            self.same(told(spread), wanted(Slow(NET, HOLDERS, LOG[1:])))
            self.same([spread.tally(), spread.is_shut], [(0, 0), False])
        self.assertIsNot(replayed(LOG), replayed(LOG))

    def test_logs_without_events(self):
        for net, holders in starts():
            spread = replayed((('spread', net, holders),))
            self.same(told(spread), wanted(Slow(net, holders)))
            self.same(spread.tally(), (0, 0))

    def test_what_is_no_log(self):
        for value in (*ANYTHING, (), HEAD, [*LOG], LOG[1:], (HEAD, None), (HEAD, ('give', 0, -1)), (HEAD, ('lose', True)),
                      (('spread', NET, (('d',),)),), (('spread', HOLDERS, NET),), Spread(NET, HOLDERS)):
            self.unusable('log', -1, replayed, value)
        self.unusable('log', -1, replayed, log=None)

    def test_one_thing_changed(self):
        said = set()
        for log in changed(LOG):
            try:
                said.add(replayed(log).log() == log)
            except ValueError as error:
                said.add(tuple(vars(error).values())[-1])
        self.assertEqual(said, {True, -1, 'wire', 'piece', 'has', 'house'})

    def test_the_first_event_that_is_refused(self):
        for bad, reason in ((('give', 0, 0), 'wire'), (('give', 9, 0), 'wire'), (('give', 2, 1), 'piece'),
                            (('give', 3, 0), 'piece'), (('lose', 4), 'wire'), (('lay', 2, 'b'), 'piece'),
                            (('lay', 0, 'b'), 'house'), (('lay', 0, 'zz'), 'house')):
            log = (HEAD, ('give', 0, 0), ('lose', 1), bad, ('lose', 9))
            self.assertIs(self.refuses(bad, reason, replayed, log).event, bad)
        self.refuses(('give', 2, 0), 'has', replayed, (HEAD, ('lay', 0, 'c'), ('lay', 0, 'b'), ('give', 2, 0)))

    def test_as_many_events_as_a_spread_takes(self):
        head = ('spread', WIDE, WIDE_HOLDERS)
        self.same(len(replayed((head, *FULL))), 24)
        self.refuses(ONE_MORE, 'full', replayed, (head, *FULL, ONE_MORE))
        self.refuses(ONE_MORE, 'full', replayed, (head, *FULL, ONE_MORE, ('lose', 99)))


class ReplayedConsequencesTest(Case):

    def test_equal_unless_shut(self):
        dice = Dice(31)
        for shape in (Spread, Guarded):
            for net, holders in starts():
                spread = shape(net, holders)
                for _ in range(12):
                    possible = [event for event in all_events(net, holders) if spread.barred(event) is None]
                    if possible:
                        spread.apply(possible[dice.throw(len(possible))])
                self.same(replayed(spread.log()) == spread, True)
                self.same(told(replayed(spread.log())), told(spread))
                again = Guarded(net, holders)
                if shape is Guarded:
                    self.same(again.do_all(*spread), len(spread))
                    self.same(again == spread, True)
                spread.shut()
                self.same(replayed(spread.log()) == spread, False)

    def test_what_a_guarded_one_would_refuse(self):
        spread = spread_after(('give', 0, 0), ('give', 1, 0))
        self.same(replayed(spread.log()).state(), 'short')
        self.same(replayed(Spread(TWINS, SIDES).log()).state(), 'short')
        with self.assertRaises(InvalidEvent):
            replayed((*spread.log(), ('give', 1, 0)))


if __name__ == '__main__':
    unittest.main()
