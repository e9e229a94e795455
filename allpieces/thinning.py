"""Givings without wires that are given something in vain, and the roads of pieces to houses."""

from allpieces.givingneeds import need_giving
from allpieces.holderneeds import need_piece
from allpieces.netneeds import need_house
from allpieces.reaching import comers, comers_to


def thinned(net, holders, giving):
    """Return a giving by which all have what they have in this one, with as few of its wires as can be."""
    need_giving(net, holders, giving)
    found = comers(net, holders, giving)
    return tuple([_still_given(net, found, wire, piece) for wire, piece in enumerate(giving)])


def _still_given(net, found, wire, piece):
    """Return the piece if the target of the wire came to it first by this wire, otherwise -1."""
    if piece == -1 or found[piece][net[1][wire][1]] != wire:
        return -1
    return piece


def road_of(net, holders, giving, house, piece):
    """Return a road of the piece to the house, () if this is a holder, None if it lacks the piece."""
    need_giving(net, holders, giving)
    need_house(net, house)
    need_piece(holders, piece)
    found = comers_to(net, holders[piece], giving, piece)
    if house not in found:
        return None
    road = []
    place = house
    while found[place] != -1:
        road.append(found[place])
        place = net[1][found[place]][0]
    return tuple(road[::-1])
