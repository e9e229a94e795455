"""Values that the tests share, and slow, plain answers to compare with."""

from functools import lru_cache
from itertools import combinations, product

NET = (('a', 'b', 'c'), (('a', 'b'), ('a', 'c'), ('b', 'c'), ('c', 'b')))
HOLDERS = (('a',), ('a',))
FREE, FIRST = (-1, -1, -1, -1), (0, -1, -1, -1)
VAIN = (0, 0, 0, 0)
LINE = (('a', 'b', 'c'), (('b', 'c'), ('a', 'b'), ('c', 'b')))
TWINS = (('a', 'b', 'c', 'd'), (('a', 'b'), ('b', 'a'), ('c', 'd'), ('d', 'c')))
SIDES = (('a', 'b'), ('c', 'd'))
ONE_HOUSE = (('a',), ())
EQUAL = (('a', 'b'), (('a', 'b'), ('a', 'b'), ('b', 'a'), ('a', 'b')))
APART = (('a', 'b', 'c'), ())
# The document's second LINE.
NARROW = (('a', 'b', 'c'), (('a', 'b'), ('b', 'c'), ('b', 'c'), ('c', 'b')))
ONE = (('a',),)
CROSS = (('a', 'b', 't', 'x', 'y'), (('a', 'x'), ('a', 'y'), ('b', 'x'), ('x', 't'), ('y', 't')))
ENDS, NONE = (('a',), ('b',)), (-1, -1, -1, -1, -1)

# As great as [10] lets it be: sixteen pairs of a house and a piece that it lacks, and a wire for each.
GREAT = (('a', 'b', 'c', 'd', 'e', 'f'), (
    ('a', 'c'), ('c', 'a'), ('e', 'a'), ('a', 'b'), ('b', 'd'), ('d', 'b'), ('f', 'b'), ('d', 'c'),
    ('c', 'e'), ('a', 'e'), ('a', 'c'), ('d', 'e'), ('d', 'f'), ('b', 'f'), ('b', 'd'), ('e', 'f'),
))
GREAT_HOLDERS = (('a', 'b'), ('c', 'd'), ('e', 'f'), ('a', 'd'))


def nested(depth):
    """Return a value that is nested so deep, in lists and tuples by turns."""
    value = ()
    for level in range(depth - 1):
        value = [value] if level % 2 else (value,)
    return value


ANYTHING = [
    0, 1, -1, 2, True, False, None, '', ' ', 'a', 'ab', 'A', 'a\n', 'abcdefgh', 'abcdefghi', '-', '0', 'none',
    10 ** 59, -10 ** 59, (), [], ('a',), ['a'], ('a', 'b'), ['a', 'b'], ('b', 'a'), ('a', 'a'), ('a', 'b', 'c'),
    (0,), (-1,), (True,), (False,), (None,), [0], (0, 0), (0, 1), (True, False), ((),), ([],), (('a',),), (['a'],),
    (('a', 'b'),), (('a', 'b'), ()), (('a', 'b'), []), [('a', 'b'), ()], (('a',), (), ()), (('a', 'b'), (('a', 'b'),)),
    'x' * 4000, tuple(range(5000)), nested(30), ('a', nested(29)), NET, HOLDERS, FREE,
]

# Nets with holders small enough to go through all their givings.
CASES = [
    (NET, HOLDERS),
    (NET, (('a',), ('b', 'c'))),
    (LINE, (('a',), ('c',))),
    (TWINS, SIDES),
    (EQUAL, (('a',), ('b',))),
    (EQUAL, (('a', 'b'),)),
    (NET, ()),
    (APART, (('a',), ('b',))),
    (ONE_HOUSE, (('a',), ('a',))),
    (ONE_HOUSE, ()),
    ((('x', 'y', 'z'), (('x', 'y'), ('y', 'z'), ('z', 'x'), ('y', 'x'), ('x', 'y'))), (('x',), ('z',))),
    ((('x', 'y', 'z'), (('z', 'y'), ('y', 'z'), ('x', 'z'), ('z', 'x'))), (('x',), ('y',), ('x', 'z'))),
]


class Dice:
    """Numbers that look thrown, always the same ones."""

    def __init__(self, seed):
        self.state = seed

    def throw(self, many):
        """Return a number below many."""
        self.state = (self.state * 6364136223846793005 + 1442695040888963407) % 2 ** 64
        return (self.state >> 33) % many

    def great(self, many):
        """Return a number below many, which may have sixty digits."""
        thrown = 0
        for _ in range(8):
            thrown = thrown * 2 ** 31 + self.throw(2 ** 31)
        return thrown % many

    def net(self, houses, wires, pieces):
        """Return a net and holders with so many houses, wires and pieces."""
        names = ('a', 'b', 'c', 'd', 'e', 'f')[:houses]
        ends = [(self.throw(houses), 1 + self.throw(houses - 1)) for _ in range(wires)]
        net = (names, tuple((names[k], names[(k + more) % houses]) for k, more in ends))
        return net, tuple(self.some(names) for _ in range(pieces))

    def some(self, names):
        """Return a nonempty set of a few of the names."""
        return tuple(sorted({names[self.throw(len(names))] for _ in range(1 + self.throw(3))}))

    def sound(self, houses, pieces, more):
        """Return a net, holders and a sound giving; with no more wires than are needed, many sets are tight."""
        names = ('a', 'b', 'c', 'd', 'e', 'f')[:houses]
        holders = tuple(self.some(names) for _ in range(pieces))
        led = [(self.throw(houses), 1 + self.throw(houses - 1), -1, 0) for _ in range(more)]
        led = [(names[k], names[(k + far) % houses], piece, keep) for k, far, piece, keep in led]
        for piece, held in enumerate(holders):
            have = list(held)
            kept = self.throw(houses)
            while len(have) < houses:
                target = [name for name in names if name not in have][self.throw(houses - len(have))]
                led.append((have[self.throw(len(have))], target, piece, len(have) <= kept))
                have.append(target)
        led = [led.pop(self.throw(len(led))) for _ in range(len(led))]
        giving = tuple(piece if keep else -1 for _, _, piece, keep in led)
        return (names, tuple(wire[:2] for wire in led)), holders, giving

    def giving(self, net, holders):
        """Return a giving, perhaps with wires that are given something in vain."""
        giving = [-1] * len(net[1])
        for _ in range(self.throw(len(net[1]) + 1)):
            found = slow_having(net, holders, giving)
            wire = self.throw(len(giving))
            pieces = [piece for piece, houses in enumerate(found) if net[1][wire][0] in houses]
            if giving[wire] == -1 and pieces:
                giving[wire] = pieces[self.throw(len(pieces))]
        return tuple(giving)


def slow_having(net, holders, giving):
    """Return a list of the houses that have each piece, wire after wire until nothing more comes."""
    found = [set(houses) for houses in holders]
    for _ in net[1]:
        for (source, target), piece in zip(net[1], giving):
            if piece != -1 and source in found[piece]:
                found[piece].add(target)
    return found


def slow_nexts(net, holders, giving):
    """Return the pairs (wire, piece) that are next givings."""
    found = slow_having(net, holders, giving)
    return [
        (wire, piece) for wire, (source, target) in enumerate(net[1]) for piece in range(len(holders))
        if giving[wire] == -1 and source in found[piece] and target not in found[piece]
    ]


def courses(net, holders, giving):
    """Yield each tuple of next givings that can be made one after another, even if some could follow."""
    yield ()
    for wire, piece in slow_nexts(net, holders, giving):
        for pairs in courses(net, holders, (*giving[:wire], piece, *giving[wire + 1:])):
            yield ((wire, piece), *pairs)


def is_giving(net, holders, given):
    """Return whether the tuple by form is a giving."""
    found = slow_having(net, holders, given)
    return all(piece == -1 or wire[0] in found[piece] for wire, piece in zip(net[1], given))


def tuples_of(net, holders):
    """Yield each tuple of a piece or -1 for each wire."""
    yield from product(range(-1, len(holders)), repeat=len(net[1]))


def givings_of(net, holders):
    """Yield each giving of the net and the holders."""
    for given in tuples_of(net, holders):
        if is_giving(net, holders, given):
            yield given


def cases():
    """Yield each net, its holders and each of their givings."""
    for net, holders in CASES:
        for giving in givings_of(net, holders):
            yield net, holders, giving


def sets_of(houses):
    """Yield each nonempty set of the houses."""
    for many in range(1, len(houses) + 1):
        yield from combinations(houses, many)


@lru_cache(maxsize=None)
def slow_lacked(net, holders, giving, houses):
    """Return the pieces that no house of the set has."""
    found = slow_having(net, holders, giving)
    return tuple(piece for piece, owners in enumerate(found) if not owners & set(houses))


@lru_cache(maxsize=None)
def slow_slack(net, holders, giving, houses):
    """Return the slack of the set of houses."""
    into = [
        piece for (source, target), piece in zip(net[1], giving)
        if source not in houses and target in houses and piece == -1
    ]
    return len(into) - len(slow_lacked(net, holders, giving, houses))


@lru_cache(maxsize=None)
def slow_slacks(net, holders, giving):
    """Return a dict with the slack of each nonempty set of houses."""
    return {houses: slow_slack(net, holders, giving, houses) for houses in sets_of(net[0])}


def slow_sound(net, holders, giving):
    """Return whether no set falls short."""
    return min(slow_slacks(net, holders, giving).values()) >= 0


@lru_cache(maxsize=None)
def slow_serving(net, holders):
    """Return a list of all givings that serve."""
    full = [set(net[0])] * len(holders)
    return [giving for giving in givings_of(net, holders) if slow_having(net, holders, giving) == full]


def leads_on(late, giving):
    """Return whether a giving leads on from another one."""
    return all(piece in (-1, other) for piece, other in zip(giving, late))


def slow_leads(net, holders, giving):
    """Return a list of all givings that serve and lead on from the giving."""
    return [late for late in slow_serving(net, holders) if leads_on(late, giving)]


def small_cases():
    """Yield the nets of CASES and of others as small, their holders and givings."""
    yield from cases()
    for net, holders, giving in ((NARROW, ONE, FREE), (NARROW, HOLDERS, FREE), (CROSS, ENDS, NONE)):
        yield net, holders, giving
    dice = Dice(7)
    for turn in range(90):
        net, holders = dice.net(2 + turn % 3, 3 + dice.throw(3), 1 + dice.throw(2))
        for giving in sorted({dice.giving(net, holders) for _ in range(3)}):
            yield net, holders, giving


def wide_cases():
    """Yield nets up to the limits of [10], their holders, and a giving of each."""
    dice = Dice(11)
    for giving in ((-1,) * 16, (0, 1, *(-1,) * 14), (0, -1, -1, -1, 0, -1, -1, -1, 1, *(-1,) * 7)):
        yield GREAT, GREAT_HOLDERS, giving
    for turn in range(90):
        net, holders = dice.net(2 + turn % 5, 10 + dice.throw(7), 1 + dice.throw(4))
        yield net, holders, (-1,) * len(net[1]) if turn % 2 else dice.giving(net, holders)
    for turn in range(90):
        net, holders, giving = dice.sound(3 + turn % 4, 2 + dice.throw(3), dice.throw(3))
        if len(net[1]) <= 16:
            yield net, holders, giving if turn % 3 else (-1,) * len(net[1])


PARTS = (
    None, True, False, -1, 0, 1, 2, 3, 4, 10 ** 59, '', 'a', 'b', 'z', 'alone', 'short', 'serves', (), [], (0,), (1,),
    ('a',), ('b',), ('b', 'c'), ('c', 'b'), ('a', 'b', 'c'), ((0, (0,)),), 'give', 'lose', 'lay', 'spread', ('lose', 1),
    ('lay', 0, 'b'), (0, 'b'), (('b',), 2), ('a', 'b', 1),
)


def changed(value):
    """Yield the values that come of one thing that is changed, at any place of it."""
    yield from (part for part in PARTS if repr(part) != repr(value))
    if isinstance(value, tuple):
        yield list(value)
        for k, part in enumerate(value):
            yield value[:k] + value[k + 1:]
            yield value[:k] + (part, part) + value[k + 1:]
            for other in changed(part):
                yield value[:k] + (other,) + value[k + 1:]
            if k:
                yield value[:k - 1] + (part, value[k - 1]) + value[k + 1:]


def slow_copies(net, holders, copies):
    """Return the holders with the copies laid."""
    held = [set(houses) for houses in holders]
    for piece, house in copies:
        held[piece].add(house)
    return tuple(tuple(sorted(houses)) for houses in held)


def slow_loss(net, holders, giving, wires):
    """Return the net, the holders and the giving without these wires."""
    kept = [wire for wire in range(len(giving)) if wire not in wires]
    return (net[0], tuple(net[1][wire] for wire in kept)), holders, tuple(giving[wire] for wire in kept)


@lru_cache(maxsize=None)
def can_be_done(net, holders, giving):
    """Return whether some row of next givings ends in a giving that serves."""
    if all(len(owners) == len(net[0]) for owners in slow_having(net, holders, giving)):
        return True
    return any(
        can_be_done(net, holders, (*giving[:wire], piece, *giving[wire + 1:]))
        for wire, piece in slow_nexts(net, holders, giving)
    )


def sound_cases(which):
    """Return a list of those of the cases that are sound."""
    return [case for case in which if slow_sound(*case)]


MUCH = 10 ** 60 - 1
MANY = (('a', 'b', 'c'), (('a', 'b', 10 ** 30), ('b', 'c', 10 ** 30 - 1)), ((('a',), 10 ** 30),))
# Bulk cases that stand for so many wires and pieces that nets can be made of them.
FEW_BULKS = [
    (('a',), (), ()),
    (('a',), (), ((('a',), 3),)),
    (('a', 'b'), (), ((('a',), 1),)),
    (('a', 'b'), (('a', 'b', 1),), ()),
    (('a', 'b'), (('a', 'b', 2),), ((('a',), 2),)),
    (('a', 'b'), (('a', 'b', 2), ('b', 'a', 1)), ((('a',), 2), (('a', 'b'), 1), (('b',), 1))),
    (('a', 'b', 'c'), (('a', 'b', 2), ('a', 'c', 1), ('b', 'c', 1), ('c', 'b', 2)), ((('a',), 2),)),
    (('a', 'b', 'c'), (('a', 'b', 3), ('b', 'c', 2)), ((('a',), 3),)),
    (('a', 'b', 'c'), (('a', 'c', 1), ('b', 'c', 2), ('c', 'a', 2), ('c', 'b', 1)), ((('a',), 1), (('b',), 2))),
]


def expanded(bulks):
    """Return the net and the holders for which a bulk case stands, wire by wire and piece by piece."""
    houses, wires, pieces = bulks
    led = tuple((source, target) for source, target, times in wires for _ in range(times))
    return (houses, led), tuple(held for held, times in pieces for _ in range(times))


def times_as_great(bulks, many):
    """Return the bulk case with all times so many times as great."""
    houses, wires, pieces = bulks
    led = tuple((source, target, many * times) for source, target, times in wires)
    return houses, led, tuple((held, many * times) for held, times in pieces)


def drawn_bulks(dice, houses, wires, pieces, most):
    """Return a bulk case of so many houses, and at most so many triples and pairs, with times up to most."""
    names = ('a', 'b', 'c', 'd', 'e', 'f')[:houses]
    led = {}
    for _ in range(wires if houses > 1 else 0):
        k = dice.throw(houses)
        led[names[k], names[(k + 1 + dice.throw(houses - 1)) % houses]] = 1 + dice.great(most)
    held = {dice.some(names): 1 + dice.great(most) for _ in range(pieces)}
    return names, tuple((*ends, led[ends]) for ends in sorted(led)), tuple(sorted(held.items()))


def wide_bulks():
    """Yield bulk cases up to the limits of [55]."""
    dice = Dice(5)
    for most in (1, 3, 10 ** 9, MUCH):
        for turn in range(40):
            yield drawn_bulks(dice, 1 + turn % 6, dice.throw(13), dice.throw(7), most)
    for turn in range(40):
        # Links enough to bring most of the pieces, though not always all.
        names, wires, pieces = drawn_bulks(dice, 2 + turn % 5, 12, 2, MUCH // 4)
        yield names, tuple((*row[:2], row[2] + MUCH // 2) for row in wires), pieces
