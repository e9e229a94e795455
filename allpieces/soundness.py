"""Sound givings, and what shows that a giving is one, or that it is none."""

from allpieces.bringing import free_links, least_set, single_stocks
from allpieces.gives import given_too, nexts_of
from allpieces.givingneeds import need_giving
from allpieces.reaching import comers
from allpieces.sounding import first_short, stays_sound


def is_sound(net, holders, giving):
    """Return whether no set of houses falls short."""
    need_giving(net, holders, giving)
    return first_short(net, holders, giving) is None


def short_set(net, holders, giving):
    """Return a set of houses that falls short, None if there is none."""
    need_giving(net, holders, giving)
    house = first_short(net, holders, giving)
    if house is None:
        return None
    return least_set(net[0], free_links(net, giving), single_stocks(comers(net, holders, giving)), house)


def lead_on(net, holders, giving):
    """Return a giving that serves and leads on from the giving, None if this is not sound."""
    if not is_sound(net, holders, giving):
        return None
    late = giving
    pair = _first_let(net, holders, late)
    while pair is not None:
        late = given_too(late, pair[0], pair[1])
        pair = _first_let(net, holders, late)
    return late


def _first_let(net, holders, giving):
    """Return the first next giving after which the sound giving is still sound, None if it serves."""
    for wire, piece in nexts_of(net, holders, giving):
        if stays_sound(net, holders, giving, wire, piece):
            return (wire, piece)
    return None
