"""Nets, holders and givings written as texts."""

from allpieces.errors import NotUsable
from allpieces.kinds import is_given, is_houses
from allpieces.netneeds import need_net


def net_text(net):
    """Return the lines of a net: one of its houses, then one for each wire."""
    need_net(net)
    houses, wires = net
    head = " ".join(["houses", *houses])
    lines = [f"{source} {target}" for source, target in wires]
    return "\n".join([head, *lines])


def holders_words(holders):
    """Return the words of a tuple of sets of one or more names, one for each set; - for no sets."""
    if not isinstance(holders, tuple) or not all([is_houses(houses) for houses in holders]):
        raise NotUsable("holders", -1)
    if not holders:
        return "-"
    return " ".join([",".join(houses) for houses in holders])


def giving_words(giving):
    """Return the words of a giving by form, one for each wire, - for a free one; none for no wires."""
    if not is_given(giving):
        raise NotUsable("giving", -1)
    if not giving:
        return "none"
    return " ".join(["-" if piece == -1 else str(piece) for piece in giving])
