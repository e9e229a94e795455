"""Next givings: what free wires can be given now."""

from allpieces.errors import NotUsable
from allpieces.givingneeds import need_giving
from allpieces.holderneeds import need_piece
from allpieces.kinds import is_number, is_pair
from allpieces.netneeds import need_wire
from allpieces.reaching import comers


def can_give(net, holders, giving, wire, piece):
    """Return whether the pair (wire, piece) is a next giving."""
    need_giving(net, holders, giving)
    need_wire(net, wire)
    need_piece(holders, piece)
    return (wire, piece) in nexts_of(net, holders, giving)


def after_give(net, holders, giving, wire, piece):
    """Return the giving with this wire given this piece, which has to be a next giving."""
    if not can_give(net, holders, giving, wire, piece):
        raise NotUsable("piece", piece)
    return given_too(giving, wire, piece)


def next_givings(net, holders, giving):
    """Return the set of all next givings, pairs (wire, piece)."""
    need_giving(net, holders, giving)
    return nexts_of(net, holders, giving)


def after_gives(net, holders, giving, pairs):
    """Return the giving after these next givings, made one after another."""
    need_giving(net, holders, giving)
    if not isinstance(pairs, tuple):
        raise NotUsable("pairs", -1)
    late = giving
    for k, pair in enumerate(pairs):
        if not is_next(net, holders, late, pair):
            raise NotUsable("pairs", k)
        late = given_too(late, pair[0], pair[1])
    return late


def is_next(net, holders, giving, thing):
    """Return whether any value is a next giving of a usable giving."""
    # True is equal to 1, so a pair of bools would be found among the next givings.
    if not is_pair(thing) or not is_number(thing[0]) or not is_number(thing[1]):
        return False
    return thing in nexts_of(net, holders, giving)


def nexts_of(net, holders, giving):
    """Return the set of all next givings of a usable giving."""
    found = comers(net, holders, giving)
    return tuple([
        (wire, piece)
        for wire, (source, target) in enumerate(net[1]) if giving[wire] == -1
        for piece in range(len(holders)) if source in found[piece] and target not in found[piece]
    ])


def given_too(giving, wire, piece):
    """Return the giving with this wire given this piece."""
    return (*giving[:wire], piece, *giving[wire + 1:])
