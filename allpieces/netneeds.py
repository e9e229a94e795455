"""What functions need of a net, and of houses and wires of a usable net."""

from allpieces.errors import InvalidPaper, NotUsable
from allpieces.kinds import is_number, is_set_among
from allpieces.netchecker import lets_net


def need_net(net):
    """Refuse any value that is no net."""
    try:
        lets_net(net)
    except InvalidPaper:
        raise NotUsable("net", -1) from None


def need_house(net, house):
    """Refuse any value that is no house of the net."""
    if house not in net[0]:
        raise NotUsable("house", house)


def need_houses(net, houses):
    """Refuse any value that is no nonempty set of houses of the net."""
    if not is_set_among(houses, net[0]):
        raise NotUsable("houses", -1)


def need_wire(net, wire):
    """Refuse any value that is not the number of a wire of the net."""
    if not is_number(wire) or wire >= len(net[1]):
        raise NotUsable("wire", wire)
