"""Sets of houses that have to do without some of the houses.

Nothing is checked here: a net, who has what in a giving of it, as comers tells it, and the giving are passed.
"""

from allpieces.bringing import free_links, least_set, single_stocks


def weakest_without(net, found, giving, house, others):
    """Return a set with this house and none of the others, which has the least slack of all such sets."""
    # More than the sum of any set: so the least one is that of a set without the others.
    much = len(giving) + len(found) + 1
    return least_set(net[0], free_links(net, giving), [*single_stocks(found), (others, much)], house)
