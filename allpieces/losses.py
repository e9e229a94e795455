"""How many free wires can be lost, whichever they are, and what comes of a loss."""

from allpieces.avoiding import weakest_without
from allpieces.errors import NotUsable
from allpieces.givingneeds import need_giving
from allpieces.kinds import is_ascending, is_number
from allpieces.reaching import comers
from allpieces.slacks import slack
from allpieces.soundneeds import need_sound


def strength(net, holders, giving):
    """Return how many free wires can be lost, whichever they are, so that it stays sound; None if nothing is lacked."""
    need_sound(net, holders, giving)
    return min([least for least, houses in _weak_pairs(net, holders, giving)], default=None)


def weakest(net, holders, giving):
    """Return a set whose slack is strength, and none of which has some piece; None if nothing is lacked."""
    need_sound(net, holders, giving)
    pairs = _weak_pairs(net, holders, giving)
    if not pairs:
        return None
    return min(pairs)[1]


def after_loss(net, holders, giving, wires):
    """Return the net without these free wires, the holders, and the giving without them."""
    need_giving(net, holders, giving)
    if not _are_free(giving, wires):
        raise NotUsable("wires", -1)
    kept = [wire for wire in range(len(giving)) if wire not in wires]
    late = (net[0], tuple([net[1][wire] for wire in kept]))
    return (late, holders, tuple([giving[wire] for wire in kept]))


def _weak_pairs(net, holders, giving):
    """Return a list of pairs (slack, houses): for each house and piece that it lacks a set with this house.

    No house of the set has this piece, and no such set has less slack.
    """
    found = comers(net, holders, giving)
    sets = [
        weakest_without(net, found, giving, house, owners)
        for house in net[0] for owners in found if house not in owners
    ]
    return [(slack(net, holders, giving, houses), houses) for houses in sets]


def _are_free(giving, thing):
    """Return whether any value is a set, perhaps empty, of the numbers of free wires."""
    if not isinstance(thing, tuple):
        return False
    if not all([is_number(wire) and wire < len(giving) and giving[wire] == -1 for wire in thing]):
        return False
    return is_ascending(thing)
