"""The checker of papers that show how few copies more would do."""

from allpieces.errors import InvalidPaper
from allpieces.givingneeds import need_giving
from allpieces.kinds import is_ascending, is_number, is_pair, is_set_among
from allpieces.netchanges import laid
from allpieces.reaching import comers
from allpieces.slacks import slack
from allpieces.soundchecker import is_late


def lets_further(net, holders, giving, thing):
    """Return how many copies are needed, as a paper ("further", copies, sets, late) shows it.

    InvalidPaper for any other value.
    """
    need_giving(net, holders, giving)
    if not _is_shaped(thing):
        raise InvalidPaper("shape", -1)
    copies, sets, late = thing[1:]
    found = comers(net, holders, giving)
    if not all([_is_copy(net, found, copy) for copy in copies]) or not is_ascending(copies):
        raise InvalidPaper("copies", -1)
    # Each of these sets needs a copy of its own for each wire that it is short of, as no two share a house.
    if len(copies) != _short_together(net, holders, giving, sets):
        raise InvalidPaper("more", -1)
    more = holders
    for piece, house in copies:
        more = laid(net, more, piece, house)
    if not is_late(net, more, giving, late):
        raise InvalidPaper("giving", -1)
    return len(copies)


def _is_shaped(thing):
    """Return whether it is a quadruple of "further" and three tuples."""
    if not isinstance(thing, tuple) or len(thing) != 4 or thing[0] != "further":
        return False
    return all([isinstance(part, tuple) for part in thing[1:]])


def _is_copy(net, found, thing):
    """Return whether it is a pair of a piece and a house that lacks it; found tells who has what, as comers does."""
    if not is_pair(thing):
        return False
    piece, house = thing
    if not is_number(piece) or piece >= len(found):
        return False
    return house in net[0] and house not in found[piece]


def _short_together(net, holders, giving, sets):
    """Return how many wires the sets are short of together, or refuse the first that is none or shares a house."""
    taken = []
    many = 0
    for k, houses in enumerate(sets):
        if not is_set_among(houses, net[0]) or slack(net, holders, giving, houses) >= 0:
            raise InvalidPaper("set", k)
        if any([house in taken for house in houses]):
            raise InvalidPaper("apart", k)
        taken.extend(houses)
        many = many - slack(net, holders, giving, houses)
    return many
