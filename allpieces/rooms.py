"""For how many pieces more there is room."""

from allpieces.avoiding import weakest_without
from allpieces.netneeds import need_houses
from allpieces.reaching import comers
from allpieces.slacks import slack
from allpieces.soundneeds import need_sound


def room_for(net, holders, giving, houses):
    """Return with how many pieces more, held by just these houses, it stays sound; None for any number of them."""
    need_sound(net, holders, giving)
    need_houses(net, houses)
    found = comers(net, holders, giving)
    sets = [weakest_without(net, found, giving, house, houses) for house in net[0] if house not in houses]
    return min([slack(net, holders, giving, each) for each in sets], default=None)
