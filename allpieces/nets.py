"""Nets as objects."""

from allpieces.errors import NotUsable
from allpieces.kinds import is_name, is_wire_among
from allpieces.netchanges import without_wire
from allpieces.netchecker import lets_net
from allpieces.netneeds import need_wire
from allpieces.netreadings import net_read
from allpieces.nettexts import net_text


class Net:
    """A net, which never changes."""

    def __init__(self, houses, *wires):
        lets_net((houses, wires))
        self._houses = houses
        self._wires = wires

    @classmethod
    def of(cls, net):
        """Return the Net of a net."""
        lets_net(net)
        houses, wires = net
        return cls(houses, *wires)

    @classmethod
    def read(cls, text):
        """Return the Net that a string writes."""
        houses, wires = net_read(text)
        return cls(houses, *wires)

    # A method with a star needs a plain parameter ahead of it; None is no name,
    # so a call without names is refused like any other one with too few of them.
    @staticmethod
    def ring(first=None, *names):
        """Return the Net of houses with all these names, with a wire from each to the next one, round."""
        sources = (first, *names)
        if len(sources) < 2 or not all([is_name(name) for name in sources]):
            raise NotUsable("names", -1)
        if len(set(sources)) < len(sources):
            raise NotUsable("names", -1)
        houses = tuple(sorted(sources))
        wires = list(zip(sources, (*names, first)))
        return Net(houses, *wires)

    @property
    def net(self):
        """The pair of houses and wires."""
        return (self._houses, self._wires)

    @property
    def bearing(self):
        """The set of the houses."""
        return self._houses

    def __getitem__(self, at):
        need_wire((self._houses, self._wires), at)
        return self._wires[at]

    def __contains__(self, x):
        return x in self._houses

    def __len__(self):
        return len(self._wires)

    def __iter__(self):
        return iter(self._wires)

    def __eq__(self, other):
        return isinstance(other, Net) and self._houses == other._houses and self._wires == other._wires

    def __str__(self):
        return str(net_text((self._houses, self._wires)))

    def __add__(self, other):
        if not is_wire_among(other, self._houses):
            raise NotUsable("wire", other)
        return Net(self._houses, *self._wires, other)

    def __sub__(self, other):
        houses, wires = without_wire((self._houses, self._wires), other)
        return Net(houses, *wires)
