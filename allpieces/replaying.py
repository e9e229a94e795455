"""Spreads made anew from their logs."""

from allpieces.errors import NotUsable
from allpieces.logkinds import is_log
from allpieces.spreads import Spread


def replayed(log):
    """Return a new Spread after the events of the log."""
    if not is_log(log):
        raise NotUsable("log", -1)
    spread = Spread(log[0][1], log[0][2])
    spread.follow(log[1:], False)
    return spread
