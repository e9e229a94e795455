"""The checker of nets."""

from allpieces.errors import InvalidPaper
from allpieces.kinds import is_houses, is_pair, is_wire_among


def lets_net(thing):
    """Return how many wires a net has; InvalidPaper for any other value."""
    if not is_pair(thing):
        raise InvalidPaper("shape", -1)
    houses, wires = thing
    if not is_houses(houses):
        raise InvalidPaper("houses", -1)
    if not isinstance(wires, tuple):
        raise InvalidPaper("wires", -1)
    known = {house: True for house in houses}
    for k, wire in enumerate(wires):
        if not is_wire_among(wire, known):
            raise InvalidPaper("wire", k)
    return len(wires)
