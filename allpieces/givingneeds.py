"""What functions need of a giving."""

from allpieces.errors import InvalidPaper, NotUsable
from allpieces.givingchecker import lets_giving


def need_giving(net, holders, giving):
    """Refuse any values that are no net, no holders of it, or no giving of both."""
    try:
        lets_giving(net, holders, giving)
    except InvalidPaper:
        raise NotUsable("giving", -1) from None
