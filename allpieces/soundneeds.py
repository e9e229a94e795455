"""What functions need that are for sound givings only."""

from allpieces.errors import NotUsable
from allpieces.soundness import is_sound


def need_sound(net, holders, giving):
    """Refuse any values that are no net, no holders of it, no giving of both, or no sound one."""
    if not is_sound(net, holders, giving):
        raise NotUsable("sound", -1)
