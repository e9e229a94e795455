"""The checker of papers that show whether a giving is sound."""

from allpieces.comings import serves
from allpieces.errors import InvalidPaper
from allpieces.givingchecker import lets_giving
from allpieces.givingneeds import need_giving
from allpieces.kinds import is_pair, is_set_among
from allpieces.slacks import is_short


def lets_sound(net, holders, giving, thing):
    """Return whether the giving is sound, as a paper shows it; InvalidPaper for any other value."""
    need_giving(net, holders, giving)
    if not is_pair(thing) or thing[0] not in ("serves", "short"):
        raise InvalidPaper("shape", -1)
    word, shown = thing
    if word == "serves":
        if not is_late(net, holders, giving, shown):
            raise InvalidPaper("giving", -1)
        return True
    if not is_set_among(shown, net[0]) or not is_short(net, holders, giving, shown):
        raise InvalidPaper("short", -1)
    return False


def is_late(net, holders, giving, thing):
    """Return whether any value is a giving that serves and leads on from the usable giving."""
    try:
        lets_giving(net, holders, thing)
    except InvalidPaper:
        return False
    if not all([piece in (-1, late) for piece, late in zip(giving, thing)]):
        return False
    return serves(net, holders, thing)
