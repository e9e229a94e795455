"""How few copies more at the beginning would do, and the sets of houses that are short of them."""

from allpieces.bringing import free_links, greatest_set, most_brought, single_stocks
from allpieces.errors import NotUsable
from allpieces.givingneeds import need_giving
from allpieces.kinds import is_number
from allpieces.netchanges import laid
from allpieces.reaching import comers
from allpieces.slacks import lacked_by


def enough(net, holders, giving, numbers):
    """Return whether no set falls short when the houses get these numbers of copies more."""
    need_giving(net, holders, giving)
    _need_numbers(net, numbers)
    found = comers(net, holders, giving)
    return all([_least_room(net, found, giving, numbers, house) >= 0 for house in net[0]])


def spared(net, holders, giving, numbers):
    """Return numbers not above these that are enough, none of which can be less; None if these are not enough."""
    if not enough(net, holders, giving, numbers):
        return None
    found = comers(net, holders, giving)
    left = list(numbers)
    for k, house in enumerate(net[0]):
        left[k] = left[k] - min(left[k], _least_room(net, found, giving, left, house))
    return tuple(left)


def fewest_further(net, holders, giving):
    """Return numbers of copies for the houses that are enough, with the least sum."""
    need_giving(net, holders, giving)
    # All numbers of which none can be less have the same sum.
    return spared(net, holders, giving, tuple([len(holders) for house in net[0]]))


def further_copies(net, holders, giving):
    """Return a set of as few copies, pairs (piece, house), as can be, with which the giving is sound."""
    left = list(fewest_further(net, holders, giving))
    late = holders
    copies = []
    for k, house in enumerate(net[0]):
        while left[k] > 0:
            found = comers(net, late, giving)
            # Each set with this house that has no room lies within this one, so it lacks the piece, too.
            piece = lacked_by(found, _without_room(net, found, giving, left, house))[0]
            late = laid(net, late, piece, house)
            copies.append((piece, house))
            left[k] = left[k] - 1
    return tuple(sorted(copies))


def apart_sets(net, holders, giving):
    """Return an ascending tuple of sets apart that fall short, by as many wires together as can be."""
    numbers = fewest_further(net, holders, giving)
    found = comers(net, holders, giving)
    # Two of them are apart or the same: with a house in common, both together would have no room, either.
    return tuple(sorted(set([
        _without_room(net, found, giving, numbers, house)
        for house, number in zip(net[0], numbers) if number > 0
    ])))


def _need_numbers(net, numbers):
    """Refuse any value that is no tuple of a number for each house of the net."""
    if not isinstance(numbers, tuple) or len(numbers) != len(net[0]) or not all([is_number(k) for k in numbers]):
        raise NotUsable("numbers", -1)


def _stocks(net, found, numbers):
    """Return stocks for the pieces, and for as many copies more at each house."""
    return single_stocks(found) + [((house,), number) for house, number in zip(net[0], numbers)]


def _least_room(net, found, giving, numbers, house):
    """Return the least sum of the slack and the numbers of a set with this house."""
    return most_brought(free_links(net, giving), _stocks(net, found, numbers), house) - len(found)


def _without_room(net, found, giving, numbers, house):
    """Return the greatest set with this house that has no room, that is, a sum of 0, where there is one."""
    return greatest_set(net[0], free_links(net, giving), _stocks(net, found, numbers), house)
