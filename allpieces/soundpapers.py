"""Papers that show whether a giving is sound."""

from allpieces.soundness import lead_on, short_set


def sound_paper(net, holders, giving):
    """Return a paper ("serves", late) or ("short", houses), one that lets_sound accepts."""
    houses = short_set(net, holders, giving)
    if houses is not None:
        return ("short", houses)
    return ("serves", lead_on(net, holders, giving))
