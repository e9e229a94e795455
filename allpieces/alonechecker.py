"""The checker of papers that show what a house can come to for itself alone."""

from allpieces.errors import InvalidPaper
from allpieces.givingneeds import need_giving
from allpieces.kinds import is_number, is_pair, is_set_among
from allpieces.netneeds import need_house
from allpieces.reaching import comers
from allpieces.slacks import slack


def lets_alone(net, holders, giving, house, thing):
    """Return alone_number, as a paper ("alone", ways, houses) shows it; InvalidPaper for any other value."""
    need_giving(net, holders, giving)
    need_house(net, house)
    if not _is_shaped(net, thing):
        raise InvalidPaper("shape", -1)
    ways, houses = thing[1:]
    found = comers(net, holders, giving)
    _check_pairs(net, found, giving, house, ways)
    _check_wires(ways)
    if house not in houses:
        raise InvalidPaper("house", -1)
    most = len(ways) + len([owners for owners in found if house in owners])
    # Free wires into the set, and pieces that some house of it has, are together its slack and all pieces.
    if most != slack(net, holders, giving, houses) + len(holders):
        raise InvalidPaper("more", -1)
    return most


def _is_shaped(net, thing):
    """Return whether it is a triple of "alone", a tuple of pairs, and a nonempty set of houses of the net."""
    if not isinstance(thing, tuple) or len(thing) != 3 or thing[0] != "alone":
        return False
    ways, houses = thing[1:]
    return isinstance(ways, tuple) and all([is_pair(pair) for pair in ways]) and is_set_among(houses, net[0])


def _check_pairs(net, found, giving, house, pairs):
    """Refuse the first pair that is not a piece that the house lacks, a new one, and a way by which it can come."""
    brought = []
    for k, (piece, way) in enumerate(pairs):
        if not is_number(piece) or piece >= len(found) or house in found[piece] or piece in brought:
            raise InvalidPaper("pair", k)
        if not _is_way(net, giving, way, house) or net[1][way[0]][0] not in found[piece]:
            raise InvalidPaper("pair", k)
        brought.append(piece)


def _is_way(net, giving, thing, house):
    """Return whether any value is a way to the house."""
    if not isinstance(thing, tuple) or not thing:
        return False
    if not all([is_number(wire) and wire < len(giving) and giving[wire] == -1 for wire in thing]):
        return False
    ends = [net[1][wire] for wire in thing]
    joined = all([one[1] == two[0] for one, two in zip(ends, ends[1:])])
    return joined and ends[-1][1] == house and len(set(thing)) == len(thing)


def _check_wires(pairs):
    """Refuse the first pair with a wire of an earlier one in its way."""
    used = []
    for k, (piece, way) in enumerate(pairs):
        if any([wire in used for wire in way]):
            raise InvalidPaper("wire", k)
        used.extend(way)
