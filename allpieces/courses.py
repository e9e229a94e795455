"""What comes of next givings, as objects."""

from allpieces.errors import NotUsable
from allpieces.gives import after_give, given_too, is_next
from allpieces.holderneeds import need_holders, need_piece
from allpieces.kinds import is_number
from allpieces.netneeds import need_house


class Course:
    """Next givings, made one after another from the giving with free wires only; it never changes."""

    def __init__(self, net, holders, *pairs):
        need_holders(net, holders)
        givings = _givings_after(net, holders, pairs)
        many = len(givings) - 1
        self._net = net
        self._holders = holders
        self._pairs = pairs[:many]
        self._givings = givings
        self._refused = None if many == len(pairs) else many
        most = sum([len(net[0]) - len(held) for held in holders])
        # Each pair that is made brings one house one piece, and nobody else anything.
        self._lackings = tuple([most - k for k in range(many + 1)])

    @classmethod
    def along(cls, net, holders, pairs):
        """Return the Course of the values in a tuple."""
        need_holders(net, holders)
        if not isinstance(pairs, tuple):
            raise NotUsable("pairs", -1)
        return cls(net, holders, *pairs)

    @property
    def net(self):
        """The net."""
        return self._net

    @property
    def holders(self):
        """The holders."""
        return self._holders

    @property
    def pairs(self):
        """The tuple of the pairs that were made."""
        return self._pairs

    @property
    def giving(self):
        """The giving after these pairs."""
        return self._givings[-1]

    @property
    def refused(self):
        """The index of the first value that was not made, None if all were made."""
        return self._refused

    @property
    def lackings(self):
        """The tuple of how many pairs of a house and a piece that it lacks there are, at first and after each pair."""
        return self._lackings

    def giving_after(self, k):
        """Return the giving after the first k pairs."""
        if not is_number(k) or k > len(self._pairs):
            raise NotUsable("k", -1)
        return self._givings[k]

    def came_at(self, house, piece):
        """Return the index of the pair by which the house came to the piece, -1 for a holder, None if it lacks it."""
        need_house(self._net, house)
        need_piece(self._holders, piece)
        if house in self._holders[piece]:
            return -1
        for k, (wire, brought) in enumerate(self._pairs):
            if brought == piece and self._net[1][wire][1] == house:
                return k
        return None

    def followed(self, wire, piece):
        """Return the Course of these pairs and of (wire, piece), which has to be a next giving."""
        # Called for its errors, as a Course takes any value and stops there.
        after_give(self._net, self._holders, self._givings[-1], wire, piece)
        return Course(self._net, self._holders, *self._pairs, (wire, piece))

    def __len__(self):
        return len(self._pairs)

    def __iter__(self):
        return iter(self._pairs)

    def __eq__(self, other):
        return (
            isinstance(other, Course) and self._net == other._net
            and self._holders == other._holders and self._pairs == other._pairs
        )


def _givings_after(net, holders, pairs):
    """Return a tuple of the giving with free wires only, and of those after the pairs, until one cannot be made."""
    late = tuple([-1 for wire in net[1]])
    givings = [late]
    for pair in pairs:
        if not is_next(net, holders, late, pair):
            break
        late = given_too(late, pair[0], pair[1])
        givings.append(late)
    return tuple(givings)
