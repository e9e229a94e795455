"""Nets and holders with something more, with something less, or with other names."""

from allpieces.errors import NotUsable
from allpieces.holderneeds import need_holders, need_piece
from allpieces.kinds import is_name, is_name_pair
from allpieces.netneeds import need_house, need_net, need_wire


def with_wire(net, source, target):
    """Return the net with one wire more, the last one."""
    need_net(net)
    need_house(net, source)
    need_house(net, target)
    if source == target:
        raise NotUsable("target", -1)
    houses, wires = net
    return (houses, (*wires, (source, target)))


def without_wire(net, wire):
    """Return the net without the wire of this number."""
    need_net(net)
    need_wire(net, wire)
    houses, wires = net
    return (houses, wires[:wire] + wires[wire + 1:])


def with_house(net, name):
    """Return the net with one house more, without wires."""
    need_net(net)
    houses, wires = net
    if not is_name(name) or name in houses:
        raise NotUsable("name", name)
    return (tuple(sorted([*houses, name])), wires)


def laid(net, holders, piece, house):
    """Return the holders with the house among those of the piece."""
    need_holders(net, holders)
    need_piece(holders, piece)
    need_house(net, house)
    held = holders[piece]
    if house in held:
        raise NotUsable("house", house)
    return (*holders[:piece], tuple(sorted([*held, house])), *holders[piece + 1:])


def renamed(net, *pairs):
    """Return the net in which the houses of old names have the other names of the pairs (old, other)."""
    need_net(net)
    names = _new_names(net, pairs)
    wires = tuple([(names[source], names[target]) for source, target in net[1]])
    return (_named(net[0], names), wires)


def renamed_holders(net, holders, *pairs):
    """Return the holders of the net, with the houses renamed."""
    need_holders(net, holders)
    names = _new_names(net, pairs)
    return tuple([_named(houses, names) for houses in holders])


def _named(houses, names):
    """Return the set of the new names of the houses."""
    return tuple(sorted([names[house] for house in houses]))


def _new_names(net, pairs):
    """Return a dict with the new name of each house of the net, or refuse the pairs."""
    others = _others(pairs)
    names = {house: others.get(house, house) for house in net[0]}
    if len(set(list(names.values()))) < len(names):
        raise NotUsable("names", -1)
    return names


def _others(pairs):
    """Return a dict of the other names by their old ones, or refuse the first pair at fault."""
    others = {}
    for k, pair in enumerate(pairs):
        if not is_name_pair(pair):
            raise NotUsable("pairs", k)
        old, other = pair
        if old in others:
            raise NotUsable("name", old)
        others[old] = other
    return others
