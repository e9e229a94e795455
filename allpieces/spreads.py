"""Spreads: nets whose wires are given pieces one by one, or lost, while copies may be laid."""

from allpieces.errors import InvalidEvent, NothingToUndo, NotUsable
from allpieces.holderneeds import need_holders
from allpieces.logkinds import is_event
from allpieces.standings import fault_of, first_standing, having_of, left_of, short_of, standing_after, state_of


class Spread:
    """A net, its holders, and the events so far; at first each wire is free, and none is lost."""

    MOST = 24

    def __init__(self, net, holders):
        need_holders(net, holders)
        self._first = first_standing(net, holders)
        self._standing = self._first
        self._events = ()
        self._is_shut = False
        self._started = 0
        self._finished = 0

    @property
    def net(self):
        """The net, with all wires, the lost ones, too."""
        return self._standing[0]

    @property
    def holders(self):
        """The holders now, with the copies that were laid."""
        return self._standing[1]

    @property
    def giving(self):
        """The giving now, with -1 for lost wires."""
        return self._standing[2]

    @property
    def having(self):
        """A tuple with, for each piece, the set of the houses that have it now."""
        return having_of(self._standing)

    @property
    def lost(self):
        """The set of the lost wires."""
        return self._standing[3]

    @property
    def is_shut(self):
        """Whether the spread is shut."""
        return self._is_shut

    def left_case(self):
        """Return the triple of the net without the lost wires, the holders, and the giving of the other wires."""
        return left_of(self._standing)

    def state(self):
        """Return "all" if no house lacks a piece, otherwise "short" if a set falls short, otherwise "going"."""
        return state_of(self._standing)

    def short_now(self):
        """Return a set of houses that falls short in left_case, None if there is none."""
        return short_of(self._standing)

    def give(self, wire, piece):
        """Give the wire the piece, and return the state."""
        return self._applied(("give", wire, piece))

    def lose(self, wire):
        """Lose the wire, and return the state."""
        return self._applied(("lose", wire))

    def lay(self, piece, house):
        """Lay a copy of the piece at the house, and return the state."""
        return self._applied(("lay", piece, house))

    def apply(self, event):
        """Make the event, and return the state."""
        return self._applied(event)

    def __call__(self, event):
        return self._applied(event)

    def barred(self, event):
        """Return the reason for which any value would be refused as an event now, None if it would not be."""
        return self._fault(self._events, self._standing, event)

    def tried(self, *events):
        """Return the triple (having, lost, state) as it would be after these events; nothing changes."""
        made = self._events
        late = self._standing
        for event in events:
            late = self._after(made, late, event)
            made = (*made, event)
        return (having_of(late), late[3], state_of(late))

    def undo(self):
        """Take back the last event, and return it."""
        self._started += 1
        try:
            return self._undone()
        finally:
            self._finished = self._started

    def do_all(self, *events, keep=False):
        """Make the events in order, all or none, or with keep those ahead of one that is refused; return how many."""
        self._started += 1
        try:
            if not isinstance(keep, bool):
                raise NotUsable("keep", keep)
            self.follow(events, keep)
            return len(events)
        finally:
            self._finished = self._started

    def follow(self, events, keep):
        """Make the events as do_all does, but count no operation; keep is a bool."""
        made = self._events
        late = self._standing
        for event in events:
            late = self._after(made, late, event)
            made = (*made, event)
            if keep:
                self._events = made
                self._standing = late
        self._events = made
        self._standing = late

    def tally(self):
        """Return how many operations were started, and how many finished."""
        return (self._started, self._finished)

    def log(self):
        """Return the log of the spread."""
        net, holders, giving, lost = self._first
        return (("spread", net, holders), *self._events)

    def shut(self):
        """Shut the spread, so that events and undo are refused."""
        self._started += 1
        self._is_shut = True
        self._finished = self._started

    def __enter__(self):
        return self

    def __exit__(self, kind, value, trace):
        self._is_shut = True

    def __contains__(self, x):
        # An event by form has no bools: True is equal to 1.
        return is_event(x) and x in self._events

    def __len__(self):
        return len(self._events)

    def __iter__(self):
        return iter(self._events)

    def __eq__(self, other):
        return (
            isinstance(other, Spread) and self._first == other._first
            and self._events == other._events and self._is_shut == other._is_shut
        )

    def _applied(self, event):
        """Make the event as an operation, and return the state."""
        self._started += 1
        try:
            self.follow((event,), False)
            return self.state()
        finally:
            # No operation is within another one, so all that were started are finished now.
            self._finished = self._started

    def _undone(self):
        """Take back the last event, and return it, without counting."""
        if self._is_shut:
            raise InvalidEvent(("undo",), "closed")
        if not self._events:
            raise NothingToUndo(0)
        event = self._events[-1]
        self._events = self._events[:-1]
        self._standing = self._first
        for each in self._events:
            self._standing = standing_after(self._standing, each)
        return event

    def _fault(self, made, standing, event):
        """Return the reason for which any value is refused after the events that were made, None if it is not."""
        if not is_event(event):
            return "shape"
        if self._is_shut:
            return "closed"
        if len(made) >= self.MOST:
            return "full"
        return fault_of(standing, event)

    def _check(self, made, standing, event):
        """Refuse any value that is no possible event after those that were made."""
        reason = self._fault(made, standing, event)
        if reason is not None:
            raise InvalidEvent(event, reason)

    def _after(self, made, standing, event):
        """Return the standing after the event, or refuse it."""
        self._check(made, standing, event)
        return standing_after(standing, event)
