"""How a spread stands after some of its events.

A standing is a quadruple (net, holders, giving, lost): the net with all wires, the holders and the giving now, and the
set of the lost wires, which are given nothing. Nothing is checked here: standings and events by form are passed.
"""

from allpieces.comings import having, serves
from allpieces.gives import given_too
from allpieces.losses import after_loss
from allpieces.netchanges import laid
from allpieces.reaching import comers
from allpieces.soundness import is_sound, short_set


def first_standing(net, holders):
    """Return the standing in which each wire is free, and none is lost."""
    return (net, holders, tuple([-1 for wire in net[1]]), ())


def left_of(standing):
    """Return the triple of the net without the lost wires, the holders, and the giving of the other wires."""
    net, holders, giving, lost = standing
    return after_loss(net, holders, giving, lost)


def having_of(standing):
    """Return a tuple with, for each piece, the set of the houses that have it."""
    net, holders, giving, lost = standing
    return having(net, holders, giving)


def short_of(standing):
    """Return a set of houses that falls short by the wires that are left, None if there is none."""
    net, holders, giving = left_of(standing)
    return short_set(net, holders, giving)


def state_of(standing):
    """Return "all" if no house lacks a piece, otherwise "short" if a set falls short, otherwise "going"."""
    net, holders, giving = left_of(standing)
    if serves(net, holders, giving):
        return "all"
    return "going" if is_sound(net, holders, giving) else "short"


def fault_of(standing, event):
    """Return the reason for which the event is not possible, None if it is possible."""
    word = event[0]
    if word == "give":
        return _fault_of_give(standing, event[1], event[2])
    if word == "lay":
        return _fault_of_copy(standing, event[1], event[2])
    return None if _can_be_used(standing, event[1]) else "wire"


def standing_after(standing, event):
    """Return the standing after an event that is possible."""
    net, holders, giving, lost = standing
    word = event[0]
    if word == "give":
        return (net, holders, given_too(giving, event[1], event[2]), lost)
    if word == "lay":
        return (net, laid(net, holders, event[1], event[2]), giving, lost)
    return (net, holders, giving, tuple(sorted([*lost, event[1]])))


def _can_be_used(standing, wire):
    """Return whether the net has a wire of this number, which is free and not lost."""
    net, holders, giving, lost = standing
    return wire < len(giving) and giving[wire] == -1 and wire not in lost


def _fault_of_give(standing, wire, piece):
    """Return the reason for which the wire cannot be given the piece now, None if it can."""
    if not _can_be_used(standing, wire):
        return "wire"
    net, holders, giving, lost = standing
    source, target = net[1][wire]
    found = comers(net, holders, giving)
    if piece >= len(found) or source not in found[piece]:
        return "piece"
    return "has" if target in found[piece] else None


def _fault_of_copy(standing, piece, house):
    """Return the reason for which no copy of the piece can be laid at the house, None if it can."""
    net, holders, giving, lost = standing
    found = comers(net, holders, giving)
    if piece >= len(found):
        return "piece"
    return "house" if house not in net[0] or house in found[piece] else None
