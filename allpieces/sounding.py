"""Whether givings are sound. Nothing is checked here: a net, holders of it and a giving of both are passed."""

from allpieces.alone import most_alone
from allpieces.gives import given_too


def first_short(net, holders, giving):
    """Return the first house with which some set falls short, None if there is none."""
    for house in net[0]:
        if most_alone(net, holders, giving, house) < len(holders):
            return house
    return None


def stays_sound(net, holders, giving, wire, piece):
    """Return whether a sound giving is still sound after this next giving."""
    # Only sets with the target of the wire have less slack than before.
    target = net[1][wire][1]
    return most_alone(net, holders, given_too(giving, wire, piece), target) == len(holders)
