"""Papers that show how few copies more would do."""

from allpieces.further import apart_sets, further_copies
from allpieces.netchanges import laid
from allpieces.soundness import lead_on


def further_paper(net, holders, giving):
    """Return a paper ("further", copies, sets, late)."""
    copies = further_copies(net, holders, giving)
    late = holders
    for piece, house in copies:
        late = laid(net, late, piece, house)
    return ("further", copies, apart_sets(net, holders, giving), lead_on(net, late, giving))
