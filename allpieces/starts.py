"""Holders of a net as objects."""

from allpieces.holderneeds import need_holders, need_piece
from allpieces.netchanges import laid
from allpieces.netneeds import need_houses, need_net
from allpieces.netreadings import holders_read
from allpieces.nettexts import holders_words


class Start:
    """Holders of a net, which never change."""

    def __init__(self, net, *sets):
        need_holders(net, sets)
        self._net = net
        self._sets = sets

    @classmethod
    def of(cls, net, holders):
        """Return the Start of holders of the net."""
        need_holders(net, holders)
        return cls(net, *holders)

    @classmethod
    def read(cls, net, text):
        """Return the Start of the holders of the net that a string writes."""
        need_net(net)
        holders = holders_read(text)
        return cls(net, *holders)

    @property
    def net(self):
        """The net."""
        return self._net

    @property
    def holders(self):
        """The tuple of the sets of holders, one for each piece."""
        return self._sets

    def copied(self, piece, house):
        """Return the Start in which the house, too, is a holder of the piece."""
        holders = laid(self._net, self._sets, piece, house)
        return Start(self._net, *holders)

    def __getitem__(self, at):
        need_piece(self._sets, at)
        return self._sets[at]

    def __contains__(self, x):
        return any([x in houses for houses in self._sets])

    def __len__(self):
        return len(self._sets)

    def __iter__(self):
        return iter(self._sets)

    def __eq__(self, other):
        return isinstance(other, Start) and self._net == other._net and self._sets == other._sets

    def __str__(self):
        return str(holders_words(self._sets))

    def __add__(self, other):
        need_houses(self._net, other)
        return Start(self._net, *self._sets, other)

    def __sub__(self, other):
        need_piece(self._sets, other)
        kept = self._sets[:other] + self._sets[other + 1:]
        return Start(self._net, *kept)
