"""Spreads that are led through events, and then shut."""

from allpieces.errors import NotUsable
from allpieces.logkinds import are_events
from allpieces.spreads import Spread


def spread_through(spread, events):
    """Make the events in order until no house lacks a piece, shut the spread at the end, and return its log."""
    if not isinstance(spread, Spread):
        raise NotUsable("spread", -1)
    if not are_events(events):
        raise NotUsable("events", -1)
    with spread:
        for event in events:
            if spread.state() == "all":
                break
            spread.apply(event)
        return spread.log()
