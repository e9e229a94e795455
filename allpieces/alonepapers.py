"""Papers that show what a house can come to for itself alone."""

from allpieces.alone import alone_ways
from allpieces.bringing import free_links, least_set, single_stocks
from allpieces.reaching import comers


def alone_paper(net, holders, giving, house):
    """Return a paper ("alone", ways, houses) for the house, one that lets_alone accepts."""
    ways = alone_ways(net, holders, giving, house)
    stocks = single_stocks(comers(net, holders, giving))
    return ("alone", ways, least_set(net[0], free_links(net, giving), stocks, house))
