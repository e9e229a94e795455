"""Values that the tests share, and slow, plain answers to compare with."""

from itertools import combinations, product

NET = (('a', 'b', 'c'), (('a', 'b'), ('a', 'c'), ('b', 'c'), ('c', 'b')))
HOLDERS = (('a',), ('a',))
FREE, FIRST = (-1, -1, -1, -1), (0, -1, -1, -1)
VAIN = (0, 0, 0, 0)
LINE = (('a', 'b', 'c'), (('b', 'c'), ('a', 'b'), ('c', 'b')))
TWINS = (('a', 'b', 'c', 'd'), (('a', 'b'), ('b', 'a'), ('c', 'd'), ('d', 'c')))
SIDES = (('a', 'b'), ('c', 'd'))
ONE_HOUSE = (('a',), ())
EQUAL = (('a', 'b'), (('a', 'b'), ('a', 'b'), ('b', 'a'), ('a', 'b')))
APART = (('a', 'b', 'c'), ())


def nested(depth):
    """Return a value that is nested so deep, in lists and tuples by turns."""
    value = ()
    for level in range(depth - 1):
        value = [value] if level % 2 else (value,)
    return value


ANYTHING = [
    0, 1, -1, 2, True, False, None, '', ' ', 'a', 'ab', 'A', 'a\n', 'abcdefgh', 'abcdefghi', '-', '0', 'none',
    10 ** 59, -10 ** 59, (), [], ('a',), ['a'], ('a', 'b'), ['a', 'b'], ('b', 'a'), ('a', 'a'), ('a', 'b', 'c'),
    (0,), (-1,), (True,), (False,), (None,), [0], (0, 0), (0, 1), (True, False), ((),), ([],), (('a',),), (['a'],),
    (('a', 'b'),), (('a', 'b'), ()), (('a', 'b'), []), [('a', 'b'), ()], (('a',), (), ()), (('a', 'b'), (('a', 'b'),)),
    'x' * 4000, tuple(range(5000)), nested(30), ('a', nested(29)), NET, HOLDERS, FREE,
]

# Nets with holders small enough to go through all their givings.
CASES = [
    (NET, HOLDERS),
    (NET, (('a',), ('b', 'c'))),
    (LINE, (('a',), ('c',))),
    (TWINS, SIDES),
    (EQUAL, (('a',), ('b',))),
    (EQUAL, (('a', 'b'),)),
    (NET, ()),
    (APART, (('a',), ('b',))),
    (ONE_HOUSE, (('a',), ('a',))),
    (ONE_HOUSE, ()),
    ((('x', 'y', 'z'), (('x', 'y'), ('y', 'z'), ('z', 'x'), ('y', 'x'), ('x', 'y'))), (('x',), ('z',))),
    ((('x', 'y', 'z'), (('z', 'y'), ('y', 'z'), ('x', 'z'), ('z', 'x'))), (('x',), ('y',), ('x', 'z'))),
]


def slow_having(net, holders, giving):
    """Return a list of the houses that have each piece, wire after wire until nothing more comes."""
    found = [set(houses) for houses in holders]
    for _ in net[1]:
        for (source, target), piece in zip(net[1], giving):
            if piece != -1 and source in found[piece]:
                found[piece].add(target)
    return found


def is_giving(net, holders, given):
    """Return whether the tuple by form is a giving."""
    found = slow_having(net, holders, given)
    return all(piece == -1 or wire[0] in found[piece] for wire, piece in zip(net[1], given))


def tuples_of(net, holders):
    """Yield each tuple of a piece or -1 for each wire."""
    yield from product(range(-1, len(holders)), repeat=len(net[1]))


def givings_of(net, holders):
    """Yield each giving of the net and the holders."""
    for given in tuples_of(net, holders):
        if is_giving(net, holders, given):
            yield given


def cases():
    """Yield each net, its holders and each of their givings."""
    for net, holders in CASES:
        for giving in givings_of(net, holders):
            yield net, holders, giving


def sets_of(houses):
    """Yield each nonempty set of the houses."""
    for many in range(1, len(houses) + 1):
        yield from combinations(houses, many)
