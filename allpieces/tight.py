"""Tight sets of sound givings, and the wires that are needed for them."""

from allpieces.bringing import free_links, least_set, single_stocks
from allpieces.netneeds import need_house
from allpieces.reaching import comers
from allpieces.slacks import lacked_by
from allpieces.soundneeds import need_sound


def least_tight(net, holders, giving, house):
    """Return the tight set with this house that lies within each of them, None if there is none."""
    need_sound(net, holders, giving)
    need_house(net, house)
    return _least_tight(net, comers(net, holders, giving), giving, house)


def needed_wires(net, holders, giving):
    """Return the set of the free wires that each giving that serves and leads on gives something."""
    need_sound(net, holders, giving)
    found = comers(net, holders, giving)
    tight = {house: _least_tight(net, found, giving, house) for house in net[0]}
    return tuple([
        wire for wire, (source, target) in enumerate(net[1])
        if giving[wire] == -1 and tight[target] is not None and source not in tight[target]
    ])


def _least_tight(net, found, giving, house):
    """Return least_tight of a sound giving; found tells who has what, as comers does."""
    # All houses together have no slack, and no set has less: so this is the least set without slack,
    # and if it lacks nothing, no greater one does.
    houses = least_set(net[0], free_links(net, giving), single_stocks(found), house)
    if lacked_by(found, houses) == ():
        return None
    return houses
