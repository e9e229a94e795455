"""The most that can be brought to a house, and the sets of houses that show that it is no more.

Links are triples (source, target, times): so often something can be brought from the source to the target.
Stocks are pairs (houses, times): so many things lie at all of these houses, and each can be taken from one of them.
The most that can be brought to a house, with what lies there, is the least sum, over the sets with this house,
of the times of the links that lead into the set and of the stocks at some house of it. Nothing is checked here.
"""

from allpieces.flows import fullest_flow, reached, reaching_to

# The place where all begins; the others are houses, by their names, and stocks, by their numbers.
START = ""


def most_brought(links, stocks, house):
    """Return the most that can be brought to the house, with what lies there."""
    arcs = arcs_of(links, stocks)
    flow = fullest_flow(arcs, START, house)
    return sum([many for (tail, head, room), many in zip(arcs, flow) if tail == START])


def least_set(houses, links, stocks, house):
    """Return the set that lies within each of those with this house that have the least sum."""
    arcs = arcs_of(links, stocks)
    found = reaching_to(arcs, fullest_flow(arcs, START, house), house)
    return tuple([name for name in houses if name in found])


def greatest_set(houses, links, stocks, house):
    """Return the set within which each of those with this house lies that have the least sum."""
    arcs = arcs_of(links, stocks)
    found = reached(arcs, fullest_flow(arcs, START, house), START)
    return tuple([name for name in houses if name not in found])


def arcs_of(links, stocks):
    """Return a list of arcs: the links, and, for each stock, arcs from START to its number, and on to its houses."""
    arcs = list(links)
    for k, (houses, times) in enumerate(stocks):
        arcs.append((START, k, times))
        arcs.extend([(k, house, times) for house in houses])
    return arcs


def free_links(net, giving):
    """Return links for the wires of a net, by their numbers: those that are given something bring nothing more."""
    return [(source, target, 1 if piece == -1 else 0) for (source, target), piece in zip(net[1], giving)]


def single_stocks(found):
    """Return stocks for the pieces, by their numbers; found tells who has what, as comers does."""
    return [(owners, 1) for owners in found]
