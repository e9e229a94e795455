"""Spreads in which nothing is given or lost if houses would fall short."""

from allpieces.errors import Barred
from allpieces.spreads import Spread
from allpieces.standings import short_of, standing_after


class Guarded(Spread):
    """A spread that refuses each event "give" or "lose" after which a set falls short."""

    def __init__(self, net, holders):
        super().__init__(net, holders)

    def barred(self, event):
        """Return the reason for which any value would be refused as an event now, None if it would not be."""
        reason = super().barred(event)
        if reason is None and _short_after(self._standing, event) is not None:
            return "short"
        return reason

    def _check(self, made, standing, event):
        """Refuse any value that is no possible event after those that were made, or after which a set falls short."""
        super()._check(made, standing, event)
        houses = _short_after(standing, event)
        if houses is not None:
            raise Barred(event, houses)


def _short_after(standing, event):
    """Return a set that falls short after a possible event "give" or "lose", None if there is none."""
    if event[0] == "lay":
        return None
    return short_of(standing_after(standing, event))
