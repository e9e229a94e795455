"""(O2) of [9], [8], [41] to [45]: the guard."""

import unittest

from allpieces.alone import alone_number
from allpieces.comings import having, serves
from allpieces.gives import after_give, next_givings
from allpieces.guarding import is_let, let_givings
from allpieces.soundness import is_sound
from tests.checks import BAD_GIVINGS, BAD_HOLDERS, BAD_NETS, BAD_PIECE, BAD_WIRE, Case
from tests.samples import (
    ANYTHING, CASES, EQUAL, FIRST, FREE, HOLDERS, NARROW, NET, ONE, ONE_HOUSE, SIDES, TWINS, VAIN, Dice, cases, leads_on,
    slow_having, slow_leads, slow_nexts, slow_sound, small_cases, wide_cases,
)


def given(giving, wire, piece):
    """Return the giving with this wire given this piece."""
    return (*giving[:wire], piece, *giving[wire + 1:])


def slow_let(net, holders, giving):
    """Return the next givings after which no set falls short."""
    return tuple(
        (wire, piece) for wire, piece in slow_nexts(net, holders, giving)
        if slow_sound(net, holders, given(giving, wire, piece))
    )


class GuardingTest(Case):

    def test_examples(self):
        named = {'net': NET, 'holders': HOLDERS}
        self.both_ways(((0, 0), (0, 1), (1, 0), (1, 1)), let_givings, **named, giving=FREE)
        self.both_ways(((1, 1), (2, 0)), let_givings, **named, giving=FIRST)
        self.both_ways(False, is_let, **named, giving=FIRST, wire=1, piece=0)
        self.both_ways(True, is_let, **named, giving=FIRST, wire=2, piece=0)
        self.both_ways((), let_givings, net=TWINS, holders=SIDES, giving=FREE)
        self.unusable('wire', 4, is_let, NET, HOLDERS, FREE, 4, 0)

    def test_givings_that_are_not_sound(self):
        for giving in ((0, 0, -1, -1), VAIN):
            self.same(let_givings(NET, HOLDERS, giving), ())
            for wire in range(4):
                for piece in range(2):
                    self.same(is_let(NET, HOLDERS, giving, wire, piece), False)
        self.same(next_givings(TWINS, SIDES, (-1, -1, -1, -1)) == (), True)
        # What falls short elsewhere counts, too.
        net = (('a', 'b', 'c', 'd'), (('a', 'b'), ('a', 'c')))
        self.same(next_givings(net, ONE, (-1, -1)), ((0, 0), (1, 0)))
        self.same(let_givings(net, ONE, (-1, -1)), ())
        self.same(is_let(net, ONE, (-1, -1), 0, 0), False)

    def test_no_pieces_and_no_wires(self):
        self.same(let_givings(NET, (), FREE), ())
        self.same(let_givings(ONE_HOUSE, (('a',),), ()), ())

    def test_small_nets(self):
        for net, holders, giving in small_cases():
            wanted = slow_let(net, holders, giving)
            self.same(let_givings(net, holders, giving), wanted)
            for wire in range(len(net[1])):
                for piece in range(len(holders)):
                    self.same(is_let(net, holders, giving, wire, piece), (wire, piece) in wanted)
                    if (wire, piece) in slow_nexts(net, holders, giving):
                        leads = slow_leads(net, holders, given(giving, wire, piece))
                        self.same((wire, piece) in wanted, leads != [])

    def test_wide_nets(self):
        for net, holders, giving in wide_cases():
            wanted = slow_let(net, holders, giving)
            self.same(let_givings(net, holders, giving), wanted)
            for wire, piece in next_givings(net, holders, giving):
                self.same(is_let(net, holders, giving, wire, piece), (wire, piece) in wanted)

    def test_all_along_in_wide_nets(self):
        dice = Dice(5)
        refused = 0
        for net, holders, giving in wide_cases():
            late, wanted = giving, slow_let(net, holders, giving)
            while wanted:
                refused += len(slow_nexts(net, holders, late)) - len(wanted)
                late = given(late, *wanted[dice.throw(len(wanted))])
                wanted = slow_let(net, holders, late)
                self.same(let_givings(net, holders, late), wanted)
        self.assertGreater(refused, 20)

    def test_for_each_piece_that_is_lacked_some_wire_is_let(self):
        for net, holders, giving in (*small_cases(), *wide_cases()):
            if slow_sound(net, holders, giving):
                found = slow_having(net, holders, giving)
                short = [piece for piece, owners in enumerate(found) if len(owners) < len(net[0])]
                self.same(sorted({piece for _, piece in let_givings(net, holders, giving)}), short)

    def test_errors(self):
        usable = {'net': NET, 'holders': HOLDERS, 'giving': FIRST}
        wrong = {'net': BAD_NETS, 'holders': BAD_HOLDERS, 'giving': BAD_GIVINGS}
        self.first_error(let_givings, usable, wrong)
        few = {name: rows[:2] for name, rows in wrong.items()}
        self.first_error(is_let, {**usable, 'wire': 1, 'piece': 0}, {**few, 'wire': BAD_WIRE, 'piece': BAD_PIECE})
        # The giving need not be sound for wire and piece to be looked at.
        spent = {**usable, 'giving': (0, 0, -1, -1), 'wire': 1, 'piece': 0}
        self.first_error(is_let, spent, {'wire': BAD_WIRE, 'piece': BAD_PIECE})
        for value in ANYTHING:
            if repr(value) not in ('0', '1', '2'):
                self.unusable('wire', value, is_let, NET, HOLDERS, FIRST, value, value)
            if repr(value) not in ('0', '1'):
                self.unusable('piece', value, is_let, NET, HOLDERS, FIRST, 0, value)


class GuardingConsequencesTest(Case):

    def test_the_target_alone_tells(self):
        for net, holders, giving in (*cases(), *wide_cases()):
            if is_sound(net, holders, giving):
                for wire, piece in next_givings(net, holders, giving):
                    late = after_give(net, holders, giving, wire, piece)
                    number = alone_number(net, holders, late, net[1][wire][1])
                    self.same(is_let(net, holders, giving, wire, piece), number == len(holders))

    def test_nothing_is_let_exactly_if_it_serves_or_is_not_sound(self):
        for net, holders, giving in (*small_cases(), *wide_cases()):
            done = serves(net, holders, giving) or not is_sound(net, holders, giving)
            self.same(let_givings(net, holders, giving) == (), done)

    def test_what_is_let_ends_in_a_giving_that_serves(self):
        dice = Dice(5)
        for net, holders, giving in (*cases(), *wide_cases()):
            if not is_sound(net, holders, giving):
                continue
            late, many = giving, 0
            while let_givings(net, holders, late):
                pairs = let_givings(net, holders, late)
                late = after_give(net, holders, late, *pairs[dice.throw(len(pairs))])
                many += 1
            self.same(serves(net, holders, late), True)
            self.assertTrue(leads_on(late, giving))
            lacks = [len(net[0]) - len(houses) for houses in having(net, holders, giving)]
            self.same(many, sum(lacks))

    def check_rows(self, net, holders, giving):
        """Check that each row of next givings that are let ends in a giving that serves."""
        pairs = let_givings(net, holders, giving)
        self.same(pairs == (), serves(net, holders, giving))
        for wire, piece in pairs:
            self.check_rows(net, holders, given(giving, wire, piece))

    def test_whichever_are_taken(self):
        for net, holders in CASES:
            if is_sound(net, holders, (-1,) * len(net[1])):
                self.check_rows(net, holders, (-1,) * len(net[1]))

    def test_what_is_not_let_spoils_all(self):
        for net, holders, giving in cases():
            if is_sound(net, holders, giving):
                for wire, piece in next_givings(net, holders, giving):
                    late = after_give(net, holders, giving, wire, piece)
                    self.same(is_let(net, holders, giving, wire, piece), is_sound(net, holders, late))
                    if not is_sound(net, holders, late):
                        for other in cases():
                            if other[:2] == (net, holders) and leads_on(other[2], late):
                                self.same(is_sound(*other), False)

    def test_equal_wires(self):
        for net, holders, giving in ((EQUAL, ONE, FREE), (EQUAL, (('a',), ('a',)), FREE), (NARROW, ONE, (0, -1, -1, -1)),
                                     *wide_cases()):
            let = let_givings(net, holders, giving)
            free = [wire for wire, piece in enumerate(giving) if piece == -1]
            for one in free:
                for two in free:
                    if net[1][one] == net[1][two]:
                        self.same([piece for wire, piece in let if wire == one],
                                  [piece for wire, piece in let if wire == two])


if __name__ == '__main__':
    unittest.main()
