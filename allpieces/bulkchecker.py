"""The checker of bulk cases: wires and pieces told by how many there are of each kind."""

from allpieces.errors import InvalidPaper
from allpieces.kinds import is_houses, is_integer, is_pair, is_set_among, is_triple, is_wire_among


def lets_bulks(thing):
    """Return how many wires a bulk case stands for; InvalidPaper for any other value."""
    if not is_triple(thing):
        raise InvalidPaper("shape", -1)
    houses, wires, pieces = thing
    if not is_houses(houses):
        raise InvalidPaper("houses", -1)
    if not isinstance(wires, tuple):
        raise InvalidPaper("wires", -1)
    last = ()
    for k, row in enumerate(wires):
        if not _is_wire_row(row, houses) or row[:2] <= last:
            raise InvalidPaper("wire", k)
        last = row[:2]
    if not isinstance(pieces, tuple):
        raise InvalidPaper("pieces", -1)
    last = ()
    for k, row in enumerate(pieces):
        if not _is_piece_row(row, houses) or row[0] <= last:
            raise InvalidPaper("piece", k)
        last = row[0]
    return sum([times for source, target, times in wires])


def _is_wire_row(thing, houses):
    """Return whether it is a triple (source, target, times) of two different ones of the houses."""
    return is_triple(thing) and is_wire_among(thing[:2], houses) and _is_times(thing[2])


def _is_piece_row(thing, houses):
    """Return whether it is a pair (holders, times), the holders being a nonempty set of the houses."""
    return is_pair(thing) and is_set_among(thing[0], houses) and _is_times(thing[1])


def _is_times(thing):
    """Return whether it is an integer from 1 on."""
    return is_integer(thing) and thing >= 1
