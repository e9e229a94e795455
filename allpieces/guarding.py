"""The guard: which next givings do no harm."""

from allpieces.gives import can_give, given_too, nexts_of
from allpieces.sounding import first_short, stays_sound
from allpieces.soundness import is_sound


def is_let(net, holders, giving, wire, piece):
    """Return whether the wire can be given the piece now, and the giving with it is sound."""
    if not can_give(net, holders, giving, wire, piece):
        return False
    return first_short(net, holders, given_too(giving, wire, piece)) is None


def let_givings(net, holders, giving):
    """Return the set of the next givings, pairs (wire, piece), that the guard lets."""
    if not is_sound(net, holders, giving):
        return ()
    return tuple([
        (wire, piece) for wire, piece in nexts_of(net, holders, giving)
        if stays_sound(net, holders, giving, wire, piece)
    ])
