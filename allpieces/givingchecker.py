"""The checker of givings."""

from allpieces.errors import InvalidPaper
from allpieces.holderneeds import need_holders
from allpieces.kinds import is_integer
from allpieces.reaching import comers


def lets_giving(net, holders, thing):
    """Return how many wires a giving gives a piece; InvalidPaper for any other value."""
    need_holders(net, holders)
    wires = net[1]
    if not isinstance(thing, tuple) or len(thing) != len(wires):
        raise InvalidPaper("shape", -1)
    for k, piece in enumerate(thing):
        if not is_integer(piece) or not -1 <= piece < len(holders):
            raise InvalidPaper("given", k)
    found = comers(net, holders, thing)
    for k, piece in enumerate(thing):
        if piece != -1 and wires[k][0] not in found[piece]:
            raise InvalidPaper("source", k)
    return len(thing) - thing.count(-1)
