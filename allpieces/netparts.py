"""The wires at a set of houses, and between two houses."""

from allpieces.netneeds import need_house, need_houses, need_net


def into_of(net, houses):
    """Return the set of the wires that lead into the set of houses from outside of it."""
    need_net(net)
    need_houses(net, houses)
    return tuple([
        k for k, (source, target) in enumerate(net[1])
        if source not in houses and target in houses
    ])


def out_of(net, houses):
    """Return the set of the wires that lead out of the set of houses."""
    need_net(net)
    need_houses(net, houses)
    return tuple([
        k for k, (source, target) in enumerate(net[1])
        if source in houses and target not in houses
    ])


def between(net, source, target):
    """Return the set of the wires from one house to another one."""
    need_net(net)
    need_house(net, source)
    need_house(net, target)
    return tuple([k for k, wire in enumerate(net[1]) if wire == (source, target)])
