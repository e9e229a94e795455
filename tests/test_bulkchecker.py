"""[55], [56], as far as they speak of bulk cases and of lets_bulks."""

import unittest

from allpieces.bulkchecker import lets_bulks
from allpieces.errors import InvalidPaper
from allpieces.nets import Net
from tests.checks import Case
from tests.samples import ANYTHING, FEW_BULKS, MANY, MUCH, changed, expanded, sets_of, wide_bulks

GOOD = (('a', 'b', 'c'), (('a', 'b', 2), ('a', 'c', 1), ('c', 'b', 3)), ((('a',), 1), (('a', 'b'), 4), (('b',), 2)))


def is_times(value):
    """Return whether a value is an integer from 1 on."""
    return type(value) is int and value > 0


def by_name(value):
    """Return whether a value is a name."""
    letters = 'abcdefghijklmnopqrstuvwxyz'
    return type(value) is str and 1 <= len(value) <= 8 and all(letter in letters for letter in value)


def slow_check(thing):
    """Return what lets_bulks has to return, or the word and the place of the error that it has to raise."""
    if type(thing) is not tuple or len(thing) != 3:
        return 'shape', -1
    houses, wires, pieces = thing
    if type(houses) is not tuple or not all(by_name(name) for name in houses):
        return 'houses', -1
    if not houses or list(houses) != sorted(set(houses)):
        return 'houses', -1
    if type(wires) is not tuple:
        return 'wires', -1
    for k, row in enumerate(wires):
        if type(row) is not tuple or len(row) != 3 or not is_times(row[2]):
            return 'wire', k
        if row[0] not in houses or row[1] not in houses or row[0] == row[1]:
            return 'wire', k
        if k and not wires[k - 1][:2] < row[:2]:
            return 'wire', k
    if type(pieces) is not tuple:
        return 'pieces', -1
    for k, row in enumerate(pieces):
        if type(row) is not tuple or len(row) != 2 or not is_times(row[1]) or row[0] not in list(sets_of(houses)):
            return 'piece', k
        if k and not pieces[k - 1][0] < row[0]:
            return 'piece', k
    return sum(row[2] for row in wires)


class BulkCheckerTest(Case):

    def check(self, thing):
        """Check that lets_bulks says what the document says, and return it."""
        wanted = slow_check(thing)
        if isinstance(wanted, tuple):
            self.invalid(*wanted, lets_bulks, thing)
        else:
            self.same(lets_bulks(thing), wanted)
        return wanted

    def test_examples(self):
        self.both_ways(2 * 10 ** 30 - 1, lets_bulks, thing=MANY)
        self.invalid('wire', 1, lets_bulks, (('a', 'b'), (('a', 'b', 1), ('a', 'b', 2)), ()))
        self.invalid('wire', 1, lets_bulks, thing=(('a', 'b'), (('a', 'b', 1), ('a', 'b', 2)), ()))

    def test_as_many_wires_as_it_stands_for(self):
        for bulks in FEW_BULKS:
            self.same(lets_bulks(bulks), len(expanded(bulks)[0][1]))
        for bulks in wide_bulks():
            self.check(bulks)
        self.same(lets_bulks(GOOD), 6)

    def test_no_wires_and_no_pieces(self):
        self.same(lets_bulks((('a',), (), ())), 0)
        self.same(lets_bulks((('a',), (), ((('a',), MUCH),))), 0)
        self.same(lets_bulks((('a', 'b'), (('b', 'a', MUCH),), ())), MUCH)
        self.same(lets_bulks((('a', 'b'), (('a', 'b', MUCH), ('b', 'a', MUCH)), ())), 2 * MUCH)

    def test_one_thing_changed(self):
        said = set()
        for thing in changed(GOOD):
            said.add(self.check(thing))
        self.assertLess({
            ('shape', -1), ('houses', -1), ('wires', -1), ('wire', 0), ('wire', 1), ('wire', 2), ('pieces', -1),
            ('piece', 0), ('piece', 1), ('piece', 2), 5, 6, 7,
        }, said)
        for bulks in (*FEW_BULKS, *[*wide_bulks()][6::20]):
            for thing in changed(bulks):
                self.check(thing)

    def test_what_is_no_bulk_case(self):
        for thing in (*ANYTHING, Net.of((('a', 'b'), (('a', 'b'),))), [*GOOD], GOOD[:2], (*GOOD, ())):
            self.check(thing)
            for k in range(3):
                self.check((*GOOD[:k], thing, *GOOD[k + 1:]))
            for row in (thing, (thing, 'b', 2), ('a', thing, 2), ('a', 'b', thing)):
                self.check((GOOD[0], (row, *GOOD[1][1:]), GOOD[2]))
            for row in (thing, (thing, 1), (('a',), thing), (('a', thing), 1)):
                self.check((*GOOD[:2], (row, *GOOD[2][1:])))

    def test_wires(self):
        def refuse(at, *wires):
            self.invalid('wire', at, lets_bulks, (('a', 'b', 'c'), wires, ()))
            self.invalid('wire', at, lets_bulks, (('a', 'b', 'c'), wires, None))

        refuse(0, ('a', 'a', 1))
        refuse(0, ('a', 'd', 1))
        refuse(0, ('d', 'a', 1))
        refuse(0, ('a', 'b'))
        refuse(0, ('a', 'b', 1, 1))
        refuse(0, ['a', 'b', 1])
        refuse(0, ('a', 'b', 0))
        refuse(0, ('a', 'b', -1))
        refuse(0, ('a', 'b', True))
        refuse(0, ('a', 'b', '1'))
        refuse(0, ('a', 'b', 0), None)
        refuse(1, ('a', 'c', 1), ('a', 'b', 5))
        refuse(1, ('b', 'a', 1), ('a', 'b', 1))
        refuse(1, ('a', 'b', 1), ('a', 'b', 1))
        refuse(2, ('a', 'b', 1), ('a', 'c', 1), ('a', 'b', 2))
        refuse(2, ('a', 'b', 1), ('b', 'a', 1), ('a', 'c', 2))
        self.same(lets_bulks((('a', 'b', 'c'), (('a', 'b', 9), ('a', 'c', 1), ('b', 'a', 1)), ())), 11)

    def test_pieces(self):
        def refuse(at, *pieces):
            self.invalid('piece', at, lets_bulks, (('a', 'b', 'c'), (), pieces))

        refuse(0, ((), 1))
        refuse(0, (['a'], 1))
        refuse(0, (('b', 'a'), 1))
        refuse(0, (('a', 'a'), 1))
        refuse(0, (('d',), 1))
        refuse(0, ('a', 1))
        refuse(0, (('a',),))
        refuse(0, (('a',), 1, 1))
        refuse(0, [('a',), 1])
        refuse(0, (('a',), 0))
        refuse(0, (('a',), -5))
        refuse(0, (('a',), True))
        refuse(0, (1, ('a',)))
        refuse(1, (('b',), 1), (('a',), 2))
        refuse(1, (('a',), 1), (('a',), 1))
        refuse(1, (('a',), 1), (('a',), 2))
        refuse(1, (('b',), 1), (('a', 'c'), 2))
        refuse(2, (('a',), 1), (('b',), 1), (('a', 'b'), 1))
        self.same(lets_bulks((('a', 'b', 'c'), (), ((('a',), 9), (('a', 'b'), 1), (('a', 'c'), 1), (('b',), 1)))), 0)

    def test_the_first_error(self):
        bad = ((), (None,), (None,))
        self.invalid('houses', -1, lets_bulks, bad)
        self.invalid('wires', -1, lets_bulks, (('a',), None, (None,)))
        self.invalid('wire', 0, lets_bulks, (('a',), (None, None), None))
        self.invalid('pieces', -1, lets_bulks, (('a',), (), None))
        self.invalid('piece', 1, lets_bulks, (('a',), (), ((('a',), 1), None, None)))
        self.invalid('shape', -1, lets_bulks, (*bad, ()))
        with self.assertRaises(InvalidPaper):
            lets_bulks(thing=None)


if __name__ == '__main__':
    unittest.main()
