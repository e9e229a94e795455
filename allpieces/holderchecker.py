"""The checker of holders."""

from allpieces.errors import InvalidPaper
from allpieces.kinds import is_set_among
from allpieces.netneeds import need_net


def lets_holders(net, thing):
    """Return how many pieces holders of the net have; InvalidPaper for any other value."""
    need_net(net)
    if not isinstance(thing, tuple):
        raise InvalidPaper("shape", -1)
    known = {house: True for house in net[0]}
    for k, houses in enumerate(thing):
        if not is_set_among(houses, known):
            raise InvalidPaper("piece", k)
    return len(thing)
