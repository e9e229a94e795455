"""Events and logs read from lines."""

from allpieces.errors import InvalidText, NotUsable
from allpieces.kinds import is_name
from allpieces.netreadings import holders_read, is_decimal, net_read

# For each word of an event, whether the words behind it are names; the others are numbers.
EVENTS = {"give": (False, False), "lose": (False,), "lay": (False, True)}


def read_event(line):
    """Return the event that a string writes; InvalidText for any other string."""
    if not isinstance(line, str):
        raise NotUsable("line", -1)
    return _event_read(line, 0)


def read_log(lines):
    """Return the log that a list of strings without newlines writes; InvalidText for any other such list."""
    if not isinstance(lines, list) or not all([isinstance(line, str) and "\n" not in line for line in lines]):
        raise NotUsable("lines", -1)
    many = _many_read(lines[0] if lines else "")
    if len(lines) < many + 2:
        raise InvalidText(len(lines), 0)
    net = _net_read(lines[1:many + 1], 1)
    holders = _holders_read(lines[many + 1], many + 1)
    events = [_event_read(line, at) for at, line in enumerate(lines[many + 2:], start=many + 2)]
    return (("spread", net, holders), *events)


def _many_read(line):
    """Return the number that the first line of a log writes."""
    word, *rest = line.split(" ")
    if word != "spread":
        raise InvalidText(0, 0)
    if not rest or not is_decimal(rest[0]) or rest[0] == "0":
        raise InvalidText(0, 1)
    if len(rest) > 1:
        raise InvalidText(0, 2)
    return int(rest[0])


def _net_read(lines, at):
    """Return the net that these lines of a log write, the first of which has this index."""
    try:
        return net_read("\n".join(lines))
    except InvalidText as e:
        raise InvalidText(at + e.line, e.field) from None


def _holders_read(line, at):
    """Return the holders that the line of a log of this index writes."""
    try:
        return holders_read(line)
    except InvalidText as e:
        raise InvalidText(at, e.field) from None


def _event_read(line, at):
    """Return the event that the line of this index writes."""
    word, *rest = line.split(" ")
    if word not in EVENTS:
        raise InvalidText(at, 0)
    kinds = EVENTS[word]
    parts = [word]
    for field, (named, text) in enumerate(zip(kinds, rest), start=1):
        if not (is_name(text) if named else is_decimal(text)):
            raise InvalidText(at, field)
        parts.append(text if named else int(text))
    if len(rest) != len(kinds):
        # The first word too many, or the number of the words if one is missing.
        raise InvalidText(at, min(len(rest), len(kinds)) + 1)
    return tuple(parts)
