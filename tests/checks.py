"""What the tests check with."""

import unittest
from itertools import product

from allpieces.errors import Barred, InvalidEvent, InvalidPaper, InvalidText, NotUsable


class Case(unittest.TestCase):
    """A test case that tells True from 1 and lists from tuples."""

    def same(self, found, wanted):
        """Check that a value is just the one that is wanted."""
        self.assertEqual(repr(found), repr(wanted))

    def refused(self, error, fields, call, *args, **named):
        """Check that a call raises just this error, with just these fields, and changes no argument."""
        before = repr((args, named))
        with self.assertRaises(error) as caught:
            call(*args, **named)
        self.assertIs(type(caught.exception), error)
        self.assertEqual(list(vars(caught.exception)), list(fields))
        for name, value in fields.items():
            self.same(getattr(caught.exception, name), value)
        self.assertEqual(repr((args, named)), before)
        return caught.exception

    def unusable(self, word, at, call, *args, **named):
        """Check that a call raises NotUsable(word, at)."""
        return self.refused(NotUsable, {'word': word, 'at': at}, call, *args, **named)

    def invalid(self, word, at, call, *args, **named):
        """Check that a call raises InvalidPaper(word, at)."""
        return self.refused(InvalidPaper, {'word': word, 'at': at}, call, *args, **named)

    def unreadable(self, line, field, call, *args, **named):
        """Check that a call raises InvalidText(line, field)."""
        return self.refused(InvalidText, {'line': line, 'field': field}, call, *args, **named)

    def refuses(self, event, reason, call, *args, **named):
        """Check that a call raises InvalidEvent(event, reason)."""
        return self.refused(InvalidEvent, {'event': event, 'reason': reason}, call, *args, **named)

    def bars(self, event, houses, call, *args, **named):
        """Check that a call raises Barred(event, houses)."""
        return self.refused(Barred, {'event': event, 'houses': houses}, call, *args, **named)

    def first_error(self, call, usable, faults):
        """Check, for all mixtures of usable arguments and faults, that the first fault is told.

        usable has the arguments by name; faults has, for each name, a list of triples
        (value, word, at), and its names stand in the order in which the errors come.
        """
        for mixture in product(*[[None, *rows] for rows in faults.values()]):
            wrong = {name: row for name, row in zip(faults, mixture) if row is not None}
            if not wrong:
                continue
            named = {**usable, **{name: row[0] for name, row in wrong.items()}}
            _, word, at = next(iter(wrong.values()))
            with self.subTest(named=named):
                self.unusable(word, at, call, **named)
                self.unusable(word, at, call, *named.values())

    def both_ways(self, wanted, call, **named):
        """Check the result of a call by name, and by position, and that the arguments stay."""
        before = repr(named)
        self.same(call(**named), wanted)
        self.same(call(*named.values()), wanted)
        self.assertEqual(repr(named), before)


def faults(word, *values):
    """Return what first_error takes of values that are told by -1."""
    return [(value, word, -1) for value in values]


def own_faults(word, *values):
    """Return what first_error takes of values that are told themselves."""
    return [(value, word, value) for value in values]


BAD_NETS = faults('net', None, [('a', 'b', 'c'), ()], (('a', 'b', 'c'), (('a', 'a'),)))
BAD_HOLDERS = faults('holders', None, [('a',)], (('a',), ('d',)), (('a',), ()))
BAD_GIVINGS = faults('giving', None, [-1, -1, -1, -1], (-1, -1, -1), (-1, -1, -1, 2), (-1, -1, -1, 0))
BAD_HOUSES = faults('houses', (), ['a'], ('b', 'a'), ('a', 'a'), ('d',), 'a')
BAD_HOUSE = own_faults('house', 'd', None, ('a',), ['a'])
BAD_WIRE = own_faults('wire', 4, -1, True, None, [0])
BAD_PIECE = own_faults('piece', 2, -1, False, '0', (0,))
