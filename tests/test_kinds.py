"""[2], [3], [11]: forms."""

import unittest

from allpieces.kinds import is_given, is_houses, is_integer, is_name, is_number, is_wire
from tests.checks import Case
from tests.samples import ANYTHING, nested

KINDS = (is_integer, is_number, is_name, is_houses, is_wire, is_given)


class KindsTest(Case):

    def just(self, kind, yes, no):
        """Check which values are of the kind, by position and by name, and that the answer is a bool."""
        for value in yes:
            with self.subTest(value=value):
                self.both_ways(True, kind, thing=value)
        for value in no:
            with self.subTest(value=value):
                self.both_ways(False, kind, thing=value)

    def test_example(self):
        found = [is_houses(('a', 'c')), is_houses(()), is_wire(('a', 'a')), is_given((0, -1)), is_given((True,))]
        self.same(found, [True, False, False, True, False])

    def test_integers(self):
        self.just(is_integer, [0, 1, -1, 2, 10 ** 59, -10 ** 59], [True, False, None, '0', '1', (), (0,), [0], []])

    def test_numbers(self):
        self.just(is_number, [0, 1, 2, 10 ** 59], [-1, -10 ** 59, True, False, None, '0', (0,), [0]])

    def test_names(self):
        yes = ['a', 'z', 'az', 'house', 'houses', 'none', 'abcdefgh']
        no = ['', 'abcdefghi', 'A', 'aB', 'a b', ' a', 'a ', 'a\n', '\n', 'a1', '1', 'a-', '-', '_', 'a,b', '`', '{']
        self.just(is_name, yes, [*no, 'a' * 4000, None, 0, True, (), ('a',), ['a']])

    def test_houses(self):
        yes = [('a',), ('a', 'b'), ('a', 'aa', 'b'), ('abcdefgh', 'b'), tuple('abcdefghijklmnopqrstuvwxyz')]
        no = [(), ('b', 'a'), ('a', 'a'), ('a', 'c', 'b'), ('a', 'c', 'b', 'd'), ('a', 'b', 'b'), ['a'], [], 'a', 'ab',
              ('',), ('A', 'a'), ('a', 1), (1, 'a'), (0,), (('a',),), (['a'],), ('a', None), None, 0, True,
              ('a', 'abcdefghi')]
        self.just(is_houses, yes, no)

    def test_wires(self):
        yes = [('a', 'b'), ('b', 'a'), ('a', 'aa')]
        no = [('a', 'a'), ('a',), ('a', 'b', 'c'), (), ['a', 'b'], 'ab', ('a', ''), ('A', 'b'), ('a', 0), (0, 1),
              (True, False), ('a', None), (('a',), ('b',)), (['a'], 'b'), ('a', ['b']), None, 0]
        self.just(is_wire, yes, no)

    def test_givens(self):
        yes = [(), (-1,), (0,), (0, -1, 5), (10 ** 59, -1), (0,) * 5000]
        no = [(-2,), (0, -2), (True,), (False,), (0, True), (False, 0), [0], [], None, 0, -1, '', '0', ('0',), (None,),
              ((0,),), ([0],), (-10 ** 59,)]
        self.just(is_given, yes, no)

    def test_any_value_is_taken(self):
        for kind in KINDS:
            for value in ANYTHING:
                self.assertIn(kind(value), (True, False))
                self.assertIsInstance(kind(value), bool)

    def test_deep_values_are_of_no_kind(self):
        for kind in KINDS:
            for value in (nested(30), [nested(29)], ('a', nested(29))):
                self.same(kind(value), False)


if __name__ == '__main__':
    unittest.main()
