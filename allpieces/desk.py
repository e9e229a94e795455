"""A desk: a spread that is led by rows of text."""

from allpieces.errors import InvalidRow, InvalidText
from allpieces.eventreadings import read_event, read_log
from allpieces.eventtexts import event_line
from allpieces.logkinds import is_log
from allpieces.nettexts import giving_words, holders_words
from allpieces.spreads import Spread

BARS = "bars "


class Desk:
    """A desk, which has a spread, at first none, and answers rows."""

    def __init__(self):
        self._spread = None
        self._started = 0
        self._finished = 0

    def say(self, row):
        """Return the answer to a row, a string."""
        self._started += 1
        try:
            return self._answer(row)
        finally:
            # No call is within another one, so all that were started are finished now.
            self._finished = self._started

    def counts(self):
        """Return how many calls of say were started, and how many finished."""
        return (self._started, self._finished)

    def _answer(self, row):
        """Return the answer to any value, without counting."""
        if not isinstance(row, str):
            raise InvalidRow(row)
        start = _start_of(row)
        if start is not None:
            self._spread = Spread(start[1], start[2])
            return "ok"
        if self._spread is None:
            raise InvalidRow(row)
        event = _event_of(row)
        if event is not None:
            return self._spread.apply(event)
        event = _event_of(row[len(BARS):]) if row.startswith(BARS) else None
        if event is not None:
            reason = self._spread.barred(event)
            return "-" if reason is None else reason
        return _told(self._spread, row)


def _told(spread, row):
    """Return the answer to a row of one word, or refuse any other one."""
    match row:
        case "undo":
            return event_line(spread.undo())
        case "shut":
            spread.shut()
            return "ok"
        case "holders":
            return holders_words(spread.holders)
        case "having":
            return holders_words(spread.having)
        case "giving":
            return giving_words(spread.giving)
        case "lost":
            return " ".join([str(wire) for wire in spread.lost]) or "-"
        case "short":
            return " ".join(spread.short_now() or ()) or "-"
        case "state":
            return spread.state()
        case "events":
            return str(len(spread))
        case "log":
            return " / ".join([event_line(event) for event in spread]) or "-"
    raise InvalidRow(row)


def _start_of(row):
    """Return the first element of a log without events if a string has its lines, otherwise None."""
    try:
        log = read_log(row.split("\n"))
    except InvalidText:
        return None
    # The holders that were read may be none of the net.
    return log[0] if len(log) == 1 and is_log(log) else None


def _event_of(line):
    """Return the event that a string writes, None if it writes none."""
    try:
        return read_event(line)
    except InvalidText:
        return None
