"""What a house can come to by free wires for itself alone."""

from allpieces.bringing import START, arcs_of, free_links, most_brought, single_stocks
from allpieces.flows import fullest_flow
from allpieces.givingneeds import need_giving
from allpieces.netneeds import need_house
from allpieces.reaching import comers


def alone_number(net, holders, giving, house):
    """Return the most pieces that the house can have, or come to by ways for itself alone."""
    need_giving(net, holders, giving)
    need_house(net, house)
    return most_alone(net, holders, giving, house)


def most_alone(net, holders, giving, house):
    """Return alone_number of usable arguments."""
    return most_brought(free_links(net, giving), single_stocks(comers(net, holders, giving)), house)


def alone_ways(net, holders, giving, house):
    """Return pairs (piece, way) of such ways, as many as there can be, ascending by the pieces."""
    need_giving(net, holders, giving)
    need_house(net, house)
    found = comers(net, holders, giving)
    # Nothing has to be brought of the pieces that the house has.
    stocks = [(owners, 0 if house in owners else 1) for owners in found]
    arcs = arcs_of(free_links(net, giving), stocks)
    flow = fullest_flow(arcs, START, house)
    used = [wire for wire in range(len(giving)) if flow[wire] > 0]
    ways = []
    for piece, place in _begins(arcs[len(giving):], flow[len(giving):]):
        way = _way(net, used, place, house)
        used = [wire for wire in used if wire not in way]
        ways.append((piece, way))
    return tuple(ways)


def _begins(arcs, flow):
    """Return a list of the pairs (piece, house) of a piece that is brought and the house from which it is."""
    return [(tail, head) for (tail, head, room), many in zip(arcs, flow) if tail != START and many > 0]


def _way(net, wires, place, house):
    """Return a way from the place to the house over some of the wires, which surely lead there."""
    way = []
    while place != house:
        onward = [wire for wire in wires if net[1][wire][0] == place and wire not in way]
        way.append(onward[0])
        place = net[1][onward[0]][1]
    return tuple(way)
