"""A slow, plain spread to compare with, and rows of drawn events."""

from allpieces.errors import Barred, SpreadError
from allpieces.spreads import Spread
from tests.samples import (
    APART, CASES, EQUAL, GREAT, GREAT_HOLDERS, HOLDERS, NARROW, NET, ONE, ONE_HOUSE, SIDES, TWINS, Dice, sets_of,
    slow_having, slow_loss, slow_slack,
)

# As many events as a spread takes, and one more, all of which could be made.
WIDE = (('a', 'b', 'c', 'd', 'e', 'f'), (('a', 'b'),) * 16)
WIDE_HOLDERS = (('a',),) * 4
FULL = tuple(('lose', wire) for wire in range(16)) + tuple(
    ('lay', piece, house) for piece in range(2) for house in ('b', 'c', 'd', 'e', 'f')
)[:8]
ONE_MORE = ('lay', 3, 'f')

KINDS = {'give': (int, int), 'lose': (int,), 'lay': (int, str)}


def is_event(value):
    """Return whether a value is an event by form."""
    if type(value) is not tuple or not value or type(value[0]) is not str or value[0] not in KINDS:
        return False
    if tuple(type(part) for part in value[1:]) != KINDS[value[0]]:
        return False
    for part in value[1:]:
        if type(part) is int and part < 0:
            return False
        if type(part) is str and not (1 <= len(part) <= 8 and all('a' <= letter <= 'z' for letter in part)):
            return False
    return True


class Slow:
    """What is told of a spread after some events, by going through them all anew."""

    def __init__(self, net, holders, events=(), shut=False, guarded=False):
        self.net, self.first, self.events, self.shut, self.guarded = net, holders, tuple(events), shut, guarded
        held = [set(houses) for houses in holders]
        giving = [-1] * len(net[1])
        lost = set()
        for word, *rest in self.events:
            if word == 'give':
                giving[rest[0]] = rest[1]
            elif word == 'lose':
                lost.add(rest[0])
            else:
                held[rest[0]].add(rest[1])
        self.holders = tuple(tuple(sorted(houses)) for houses in held)
        self.giving, self.lost = tuple(giving), tuple(sorted(lost))
        self.found = slow_having(net, self.holders, self.giving)
        self.having = tuple(tuple(sorted(houses)) for houses in self.found)
        self.left = slow_loss(net, self.holders, self.giving, lost)
        self.log = (('spread', net, holders), *self.events)

    def after(self, event):
        """Return what is told after one event more."""
        return Slow(self.net, self.first, (*self.events, event), self.shut, self.guarded)

    def short(self):
        """Return a list of all sets that fall short."""
        return [houses for houses in sets_of(self.net[0]) if slow_slack(*self.left, houses) < 0]

    def state(self):
        """Return the state."""
        if all(len(houses) == len(self.net[0]) for houses in self.found):
            return 'all'
        return 'short' if self.short() else 'going'

    def reason(self, event):
        """Return why a value would be refused, None if it would not."""
        if not is_event(event):
            return 'shape'
        if self.shut:
            return 'closed'
        if len(self.events) >= 24:
            return 'full'
        reason = self.lay_reason(event) if event[0] == 'lay' else self.wire_reason(event)
        if reason is None and self.guarded and event[0] != 'lay' and self.after(event).short():
            return 'short'
        return reason

    def wire_reason(self, event):
        """Return the reason of an event that is about a wire."""
        wire = event[1]
        if wire >= len(self.net[1]) or self.giving[wire] != -1 or wire in self.lost:
            return 'wire'
        if event[0] == 'lose':
            return None
        source, target = self.net[1][wire]
        if event[2] >= len(self.found) or source not in self.found[event[2]]:
            return 'piece'
        return 'has' if target in self.found[event[2]] else None

    def lay_reason(self, event):
        """Return the reason of an event that lays a copy."""
        _, piece, house = event
        if piece >= len(self.found):
            return 'piece'
        return 'house' if house not in self.net[0] or house in self.found[piece] else None


def all_events(net, holders):
    """Return a list of events that are possible now and then, and of some that never are."""
    wires, pieces, houses = range(len(net[1]) + 1), range(len(holders) + 1), (*net[0], 'zz')
    found = [('give', wire, piece) for wire in wires for piece in pieces]
    found += [('lose', wire) for wire in wires]
    return found + [('lay', piece, house) for piece in pieces for house in houses]


def told(spread):
    """Return all that a spread tells of itself, but its tally."""
    return [
        spread.net, spread.holders, spread.giving, spread.having, spread.lost, spread.is_shut, spread.left_case(),
        spread.state(), spread.log(), len(spread), list(spread), spread.MOST,
    ]


def wanted(slow):
    """Return what told has to return."""
    return [
        slow.net, slow.holders, slow.giving, slow.having, slow.lost, slow.shut, slow.left, slow.state(), slow.log,
        len(slow.events), list(slow.events), 24,
    ]


def starts():
    """Yield nets with holders, small ones and some up to the limits of [10]."""
    yield from CASES
    yield from ((NARROW, ONE), (NARROW, HOLDERS), (GREAT, GREAT_HOLDERS), (WIDE, WIDE_HOLDERS), (NET, (('a', 'b', 'c'),)))
    yield from ((EQUAL, ONE), (TWINS, SIDES), (APART, ()), (ONE_HOUSE, ONE))
    dice = Dice(13)
    for turn in range(24):
        yield dice.net(2 + turn % 5, 2 + dice.throw(15), 1 + dice.throw(4))
    for turn in range(12):
        # With no more wires than are needed, many events do harm.
        net, holders, _ = dice.sound(3 + turn % 3, 2 + turn % 2, turn % 2)
        yield net, holders


def spread_after(*events, net=NET, holders=HOLDERS, shape=Spread):
    """Return a spread after these events, whose tally is (1, 1)."""
    spread = shape(net, holders)
    spread.do_all(*events)
    return spread


class Rows:
    """Tests of a class of spreads by rows of drawn events, beside the slow spread."""

    def check_now(self, spread, slow, events):
        """Check all that a spread tells of itself and of the events."""
        self.same(told(spread), wanted(slow))
        short = spread.short_now()
        if short is None:
            self.assertEqual(slow.short(), [])
        else:
            self.assertIn(short, slow.short())
        for event in events:
            self.same(spread.barred(event), slow.reason(event))

    def check_event(self, spread, slow, event):
        """Check what comes of an event, and return the slow spread after it."""
        reason = slow.reason(event)
        if reason is None:
            late = slow.after(event)
            self.same(spread.tried(event), (late.having, late.lost, late.state()))
            self.same(spread.apply(event), late.state())
            return late
        if reason == 'short':
            with self.assertRaises(Barred) as caught:
                spread.apply(event)
            self.assertIs(caught.exception.event, event)
            self.assertIn(caught.exception.houses, slow.after(event).short())
        else:
            self.refuses(event, reason, spread.apply, event)
        return slow

    def test_rows(self):
        dice = Dice(17)
        states = set()
        for net, holders in starts():
            spread = self.shape(net, holders)
            slow = Slow(net, holders, guarded=self.guarded)
            events = all_events(net, holders)
            for turn in range(30):
                states.add(slow.state())
                some = [events[dice.throw(len(events))] for _ in range(6)]
                self.check_now(spread, slow, events if len(events) < 30 else some)
                if turn % 7 == 5 and slow.events:
                    self.same(spread.undo(), slow.events[-1])
                    slow = Slow(net, holders, slow.events[:-1], guarded=self.guarded)
                possible = [event for event in some if slow.reason(event) is None]
                event = possible[0] if possible and turn % 3 else some[0]
                slow = self.check_event(spread, slow, event)
            self.check_now(spread, slow, events)
        self.assertEqual(states, {'all', 'short', 'going'})

    def test_rows_at_once(self):
        dice = Dice(19)
        found = []
        for net, holders in starts():
            events = all_events(net, holders)
            for many in (1, 2, 3, 5, 9):
                for keep in (False, True):
                    row = [events[dice.throw(len(events))] for _ in range(many)]
                    found.append(self.check_row(net, holders, row, keep))
        self.assertGreater(found.count(True), 30)
        self.assertGreater(found.count(False), 100)

    def check_row(self, net, holders, row, keep):
        """Check tried and do_all with a row of events, and return whether all are made."""
        spread = self.shape(net, holders)
        slow = new = Slow(net, holders, guarded=self.guarded)
        made = 0
        while made < len(row) and slow.reason(row[made]) is None:
            slow = slow.after(row[made])
            made += 1
        if made == len(row):
            self.same(spread.tried(*row), (slow.having, slow.lost, slow.state()))
            self.same(told(spread), wanted(new))
            self.same(spread.do_all(*row, keep=keep), made)
            self.same(told(spread), wanted(slow))
            return True
        for call, named in ((spread.tried, {}), (spread.do_all, {'keep': keep})):
            self.same(told(spread), wanted(new))
            with self.assertRaises(SpreadError) as caught:
                call(*row, **named)
            self.same(caught.exception.event, row[made])
        self.same(told(spread), wanted(slow if keep else new))
        return False
