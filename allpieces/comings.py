"""Who has what in a giving."""

from allpieces.givingneeds import need_giving
from allpieces.reaching import comers, comers_to


def having(net, holders, giving):
    """Return a tuple with, for each piece, the set of the houses that have it."""
    need_giving(net, holders, giving)
    return tuple([tuple(sorted(found)) for found in comers(net, holders, giving)])


def lacking(net, holders, giving):
    """Return the set of the pairs (house, piece) of a house and a piece that it lacks."""
    need_giving(net, holders, giving)
    found = comers(net, holders, giving)
    pieces = range(len(holders))
    return tuple([(house, piece) for house in net[0] for piece in pieces if house not in found[piece]])


def serves(net, holders, giving):
    """Return whether no house lacks a piece."""
    return lacking(net, holders, giving) == ()


def idle_wires(net, holders, giving):
    """Return the set of the wires of which each alone could be free, and all would have what they have."""
    need_giving(net, holders, giving)
    given = [wire for wire, piece in enumerate(giving) if piece != -1]
    return tuple([wire for wire in given if _is_idle(net, holders, giving, wire)])


def _is_idle(net, holders, giving, wire):
    """Return whether as many houses come to the piece of the wire without it."""
    piece = giving[wire]
    less = (*giving[:wire], -1, *giving[wire + 1:])
    held = holders[piece]
    return len(comers_to(net, held, less, piece)) == len(comers_to(net, held, giving, piece))
