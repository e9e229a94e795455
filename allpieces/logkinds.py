"""Forms of events, and logs. Each function takes any value as thing."""

from allpieces.errors import NotUsable
from allpieces.holderneeds import need_holders
from allpieces.kinds import is_name, is_number, is_pair, is_triple


def is_log(thing):
    """Return whether it is a tuple of ("spread", net, holders), holders being some of the net, and of events."""
    if not isinstance(thing, tuple) or not thing or not is_triple(thing[0]) or thing[0][0] != "spread":
        return False
    try:
        need_holders(thing[0][1], thing[0][2])
    except NotUsable:
        return False
    return are_events(thing[1:])


def are_events(thing):
    """Return whether it is a tuple of events by form, possible or not."""
    return isinstance(thing, tuple) and all([is_event(event) for event in thing])


def is_event(thing):
    """Return whether it is an event by form, ("give", wire, piece), ("lose", wire) or ("lay", piece, house)."""
    if is_pair(thing):
        return thing[0] == "lose" and is_number(thing[1])
    if not is_triple(thing) or not is_number(thing[1]):
        return False
    return (thing[0] == "give" and is_number(thing[2])) or (thing[0] == "lay" and is_name(thing[2]))
