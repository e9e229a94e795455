"""[67]: spread_through."""

import unittest

from allpieces.errors import Barred, InvalidEvent
from allpieces.guarded import Guarded
from allpieces.nets import Net
from allpieces.spreads import Spread
from allpieces.through import spread_through
from tests.checks import Case, faults
from tests.samples import ANYTHING, APART, HOLDERS, NET, TWINS, SIDES
from tests.spreading import Slow, all_events, is_event, spread_after, starts, told, wanted

SERVE = (('give', 0, 0), ('give', 1, 1), ('give', 2, 0), ('give', 3, 1))


class Spied(Spread):
    """A spread that tells what is asked of it."""

    def __init__(self, net, holders):
        super().__init__(net, holders)
        self.asked = []

    def state(self):
        self.asked.append('state')
        return super().state()

    def apply(self, event):
        self.asked.append(event)
        return super().apply(event)

    def __enter__(self):
        self.asked.append('enter')
        return super().__enter__()

    def __exit__(self, *told):
        self.asked.append('exit')
        return super().__exit__(*told)


class ThroughTest(Case):

    def test_examples(self):
        events = (('give', 0, 0), ('give', 1, 1), ('lay', 0, 'c'), ('lose', 2))
        guarded = Guarded(NET, HOLDERS)
        for event in events:
            guarded.apply(event)
        found = [len(spread_through(guarded, (('give', 3, 1), ('lose', 3)))), guarded.state(), guarded.is_shut]
        self.same(found, [6, 'all', True])
        self.same(guarded.tally(), (5, 5))

    def test_as_long_as_not_all_have_all(self):
        for shape in (Spread, Guarded):
            spread = shape(NET, HOLDERS)
            log = spread_through(spread=spread, events=(*SERVE, ('lose', 0), ('lay', 9, 'zz')))
            self.same(log, (('spread', NET, HOLDERS), *SERVE))
            self.same(told(spread), wanted(Slow(NET, HOLDERS, SERVE, shut=True)))
            self.same(spread.tally(), (4, 4))

    def test_all_events_are_made(self):
        spread = Spread(NET, HOLDERS)
        self.same(spread_through(spread, SERVE[:2]), (('spread', NET, HOLDERS), *SERVE[:2]))
        self.same([spread.state(), spread.is_shut, spread.tally()], ['going', True, (2, 2)])
        spread = spread_after(('lose', 3))
        self.same(spread_through(spread, ()), (('spread', NET, HOLDERS), ('lose', 3)))
        self.same([spread.is_shut, spread.tally()], [True, (1, 1)])

    def test_all_have_all_from_the_beginning(self):
        for net, holders in ((NET, ()), (APART, (APART[0],))):
            spread = Spread(net, holders)
            self.same(spread_through(spread, (('lose', 0), ('lay', 0, 'a'))), (('spread', net, holders),))
            self.same([spread.is_shut, spread.tally()], [True, (0, 0)])

    def test_one_is_refused(self):
        spread = Spread(NET, HOLDERS)
        self.refuses(('give', 0, 1), 'wire', spread_through, spread, (*SERVE[:2], ('give', 0, 1), *SERVE[2:]))
        self.same(told(spread), wanted(Slow(NET, HOLDERS, SERVE[:2], shut=True)))
        self.same(spread.tally(), (3, 3))
        guarded = Guarded(NET, HOLDERS)
        self.bars(('give', 1, 0), ('b', 'c'), spread_through, guarded, (('give', 0, 0), ('give', 1, 0), ('lose', 0)))
        self.same([list(guarded), guarded.is_shut], [[('give', 0, 0)], True])

    def test_shut(self):
        spread = spread_after(*SERVE[:3])
        spread.shut()
        self.refuses(SERVE[3], 'closed', spread_through, spread, SERVE[3:])
        self.same(spread_through(spread, ()), (('spread', NET, HOLDERS), *SERVE[:3]))
        done = spread_after(*SERVE)
        done.shut()
        self.same(spread_through(done, SERVE), (('spread', NET, HOLDERS), *SERVE))

    def test_what_it_asks(self):
        spread = Spied(NET, HOLDERS)
        spread_through(spread, (*SERVE, ('lose', 0), ('lose', 0)))
        # The state is asked ahead of each event; apply asks it, too.
        self.same(spread.asked, ['enter', *[each for event in SERVE for each in ('state', event, 'state')], 'state', 'exit'])
        spread = Spied(TWINS, SIDES)
        with self.assertRaises(InvalidEvent):
            spread_through(spread, (('give', 0, 0),))
        self.same(spread.asked, ['enter', 'state', ('give', 0, 0), 'exit'])

    def test_errors_ahead_of_the_with_statement(self):
        for value in (*ANYTHING, Net.of(NET), Spread):
            self.unusable('spread', -1, spread_through, value, SERVE)
            self.unusable('spread', -1, spread_through, value, None)
        spread = Spied(NET, HOLDERS)
        rows = [(), (('lose', -1),), (None,), [('lose', 0)], (('lose', 0), ['lose', 1]), (*SERVE, ('lose', True))]
        for events in (*ANYTHING, *rows):
            if events != ():
                self.unusable('events', -1, spread_through, spread, events)
        self.same([spread.asked, spread.is_shut, spread.tally(), len(spread)], [[], False, (0, 0), 0])
        self.first_error(spread_through, {'spread': spread, 'events': ()}, {
            'spread': faults('spread', None, (NET, HOLDERS)), 'events': faults('events', None, [], ('lose', 0)),
        })

    def test_rows(self):
        for shape, guarded in ((Spread, False), (Guarded, True)):
            for net, holders in starts():
                events = tuple(event for event in all_events(net, holders)[::-1] if is_event(event))
                slow = Slow(net, holders, guarded=guarded)
                for event in events:
                    if slow.state() == 'all' or slow.reason(event) is not None:
                        break
                    slow = slow.after(event)
                spread = shape(net, holders)
                if slow.state() == 'all':
                    self.same(spread_through(spread, events), slow.log)
                else:
                    with self.assertRaises((InvalidEvent, Barred)):
                        spread_through(spread, events)
                slow.shut = True
                self.same(told(spread), wanted(slow))


if __name__ == '__main__':
    unittest.main()
