"""Events and logs written as lines."""

from allpieces.errors import NotUsable
from allpieces.logkinds import is_event, is_log
from allpieces.nettexts import holders_words, net_text


def event_line(event):
    """Return the line of an event by form."""
    if not is_event(event):
        raise NotUsable("event", -1)
    return " ".join([str(part) for part in event])


def log_lines(log):
    """Return a list of the lines of a log."""
    if not is_log(log):
        raise NotUsable("log", -1)
    head, *events = log
    net, holders = head[1:]
    net_lines = net_text(net).split("\n")
    event_lines = [event_line(event) for event in events]
    return [f"spread {len(net_lines)}", *net_lines, holders_words(holders), *event_lines]
