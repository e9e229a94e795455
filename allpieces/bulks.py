"""Bulk cases: what houses can come to for themselves alone, and sets that fall short, however great the times."""

from allpieces.bringing import least_set, most_brought
from allpieces.bulkchecker import lets_bulks
from allpieces.errors import InvalidPaper, NotUsable


def bulk_alone(bulks, house):
    """Return the most pieces that the house has, or can come to by ways for itself alone."""
    _need_bulks(bulks)
    houses, wires, pieces = bulks
    if house not in houses:
        raise NotUsable("house", house)
    return most_brought(wires, pieces, house)


def bulks_sound(bulks):
    """Return whether no set falls short."""
    return bulks_short(bulks) is None


def bulks_short(bulks):
    """Return a set that falls short, None if there is none."""
    _need_bulks(bulks)
    houses, wires, pieces = bulks
    all_times = sum([times for held, times in pieces])
    for house in houses:
        if most_brought(wires, pieces, house) < all_times:
            return least_set(houses, wires, pieces, house)
    return None


def _need_bulks(bulks):
    """Refuse any value that is no bulk case."""
    try:
        lets_bulks(bulks)
    except InvalidPaper:
        raise NotUsable("bulks", -1) from None
