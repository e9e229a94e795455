"""Sets of houses: how many free wires lead into them, which pieces they lack, and what slack is left."""

from allpieces.givingneeds import need_giving
from allpieces.netneeds import need_houses
from allpieces.netparts import into_of
from allpieces.reaching import comers


def into_count(net, holders, giving, houses):
    """Return how many free wires lead into the set of houses from outside of it."""
    need_giving(net, holders, giving)
    need_houses(net, houses)
    return len([wire for wire in into_of(net, houses) if giving[wire] == -1])


def lacked(net, holders, giving, houses):
    """Return the set of the pieces that no house of the set has."""
    need_giving(net, holders, giving)
    need_houses(net, houses)
    return lacked_by(comers(net, holders, giving), houses)


def slack(net, holders, giving, houses):
    """Return how many free wires lead into the set, less the number of the pieces that no house of it has."""
    return into_count(net, holders, giving, houses) - len(lacked(net, holders, giving, houses))


def is_short(net, holders, giving, houses):
    """Return whether the set falls short."""
    return slack(net, holders, giving, houses) < 0


def is_tight(net, holders, giving, houses):
    """Return whether the set has no slack, and there is a piece that no house of it has."""
    return slack(net, holders, giving, houses) == 0 and lacked(net, holders, giving, houses) != ()


def lacked_by(found, houses):
    """Return the set of the pieces that no house of the set has; found tells who has what, as comers does."""
    return tuple([
        piece for piece, owners in enumerate(found)
        if not any([house in owners for house in houses])
    ])
