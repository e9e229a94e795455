"""[6], [25]: next givings."""

import unittest

from allpieces.gives import after_give, after_gives, can_give, next_givings
from tests.checks import BAD_GIVINGS, BAD_HOLDERS, BAD_NETS, BAD_PIECE, BAD_WIRE, Case, faults
from tests.samples import ANYTHING, EQUAL, FIRST, FREE, HOLDERS, NET, ONE_HOUSE, cases, slow_nexts

ERRORS = {'net': BAD_NETS, 'holders': BAD_HOLDERS, 'giving': BAD_GIVINGS}
SOME = {name: rows[:2] for name, rows in ERRORS.items()}


class GivesTest(Case):

    def test_examples(self):
        named = {'net': NET, 'holders': HOLDERS, 'giving': FIRST}
        self.both_ways(((1, 0), (1, 1), (2, 0)), next_givings, **named)
        self.both_ways(True, can_give, **named, wire=1, piece=0)
        self.both_ways(False, can_give, **named, wire=3, piece=1)
        self.both_ways((0, 1, -1, -1), after_give, **named, wire=1, piece=1)
        self.unusable('piece', 1, after_give, NET, HOLDERS, FIRST, 0, 1)

    def test_after_gives_examples(self):
        pairs = ((0, 0), (1, 1), (2, 0), (3, 1))
        self.both_ways((0, 1, 0, 1), after_gives, net=NET, holders=HOLDERS, giving=FREE, pairs=pairs)
        self.unusable('pairs', 1, after_gives, NET, HOLDERS, FREE, ((0, 0), (3, 0), (0, 0)))

    def test_no_pieces_and_no_wires(self):
        self.same(next_givings(NET, (), FREE), ())
        self.same(next_givings(ONE_HOUSE, (('a',),), ()), ())
        self.same(after_gives(NET, (), FREE, ()), FREE)
        self.same(after_gives(ONE_HOUSE, (), (), ()), ())

    def test_equal_wires(self):
        self.same(next_givings(EQUAL, (('a',), ('b',)), FREE), ((0, 0), (1, 0), (2, 1), (3, 0)))
        self.same(next_givings(EQUAL, (('a',), ('b',)), (-1, 0, -1, -1)), ((2, 1),))

    def test_plain_answers(self):
        for net, holders, giving in cases():
            wanted = slow_nexts(net, holders, giving)
            self.same(next_givings(net, holders, giving), tuple(wanted))
            for wire in range(len(net[1])):
                for piece in range(len(holders)):
                    self.same(can_give(net, holders, giving, wire, piece), (wire, piece) in wanted)
                    if (wire, piece) in wanted:
                        late = (*giving[:wire], piece, *giving[wire + 1:])
                        self.same(after_give(net, holders, giving, wire, piece), late)
                        self.same(after_gives(net, holders, giving, ((wire, piece),)), late)
                    else:
                        self.unusable('piece', piece, after_give, net, holders, giving, wire, piece)
                        self.unusable('pairs', 0, after_gives, net, holders, giving, ((wire, piece),))

    def test_errors(self):
        usable = {'net': NET, 'holders': HOLDERS, 'giving': FIRST}
        self.first_error(next_givings, usable, ERRORS)
        usable = {**usable, 'wire': 1, 'piece': 0}
        self.first_error(can_give, usable, {**SOME, 'wire': BAD_WIRE, 'piece': BAD_PIECE})
        self.first_error(after_give, usable, {**SOME, 'wire': BAD_WIRE, 'piece': BAD_PIECE})

    def test_pairs_that_are_no_tuple(self):
        usable = {'net': NET, 'holders': HOLDERS, 'giving': FIRST, 'pairs': ()}
        wrong = faults('pairs', None, [], [(1, 0)], 'none', 0, True)
        self.first_error(after_gives, usable, {**ERRORS, 'pairs': wrong})

    def test_elements_that_are_no_next_giving(self):
        wrong = [value for value in ANYTHING if repr(value) not in ('(0, 0)', '(0, 1)')]
        wrong = [*wrong, (0, 2), (4, 0), (0, -1), (-1, 0), (2, 0), (0, False), (False, 0), (False, True), [0, 0], (0, 0, 0)]
        for value in wrong:
            self.unusable('pairs', 0, after_gives, NET, HOLDERS, FREE, (value,))
            self.unusable('pairs', 0, after_gives, NET, HOLDERS, FREE, (value, (0, 0), None))
            self.unusable('pairs', 1, after_gives, NET, HOLDERS, FREE, ((1, 1), value))

    def test_bools_are_no_numbers_of_pairs(self):
        self.same(after_gives(NET, HOLDERS, FREE, ((1, 0),)), (-1, 0, -1, -1))
        for pair in ((True, 0), (1, False), (True, False), (True, 1), (0, True)):
            self.unusable('pairs', 0, after_gives, NET, HOLDERS, FREE, (pair,))

    def test_each_in_its_turn(self):
        self.same(after_gives(NET, HOLDERS, FREE, ((0, 0), (2, 0))), (0, -1, 0, -1))
        self.unusable('pairs', 0, after_gives, NET, HOLDERS, FREE, ((2, 0), (0, 0)))
        self.unusable('pairs', 1, after_gives, NET, HOLDERS, FREE, ((0, 0), (0, 0)))
        self.unusable('pairs', 2, after_gives, NET, HOLDERS, FREE, ((0, 0), (1, 0), (2, 0)))

    def test_no_pairs(self):
        for net, holders, giving in cases():
            self.same(after_gives(net, holders, giving, ()), giving)


if __name__ == '__main__':
    unittest.main()
