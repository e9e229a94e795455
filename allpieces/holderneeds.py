"""What functions need of holders, and of a piece of usable holders."""

from allpieces.errors import InvalidPaper, NotUsable
from allpieces.holderchecker import lets_holders
from allpieces.kinds import is_number


def need_holders(net, holders):
    """Refuse any values that are no net, or no holders of it."""
    try:
        lets_holders(net, holders)
    except InvalidPaper:
        raise NotUsable("holders", -1) from None


def need_piece(holders, piece):
    """Refuse any value that is not the number of a piece."""
    if not is_number(piece) or piece >= len(holders):
        raise NotUsable("piece", piece)
