"""[21], [26], and what [29] and [32] say of idle wires and of two pairs next to one another."""

import unittest
from itertools import permutations

from allpieces.comings import having, idle_wires, lacking, serves
from allpieces.errors import InvalidPaper
from allpieces.gives import after_give, after_gives, can_give, next_givings
from allpieces.givingchecker import lets_giving
from allpieces.netchanges import laid, renamed, renamed_holders, with_wire, without_wire
from allpieces.netparts import into_of, out_of
from allpieces.nets import Net
from allpieces.nettexts import holders_words, net_text
from allpieces.netreadings import holders_read, net_read
from allpieces.starts import Start
from tests.checks import Case
from tests.samples import CASES, FREE, HOLDERS, NET, cases, courses, givings_of, is_giving, leads_on, sets_of, tuples_of


class ChangesTest(Case):

    def test_wires_out_lead_into_the_others(self):
        for net, _ in CASES:
            for houses in sets_of(net[0]):
                others = tuple(house for house in net[0] if house not in houses)
                self.same(out_of(net, houses), into_of(net, others) if others else ())

    def test_without_wire_takes_back_with_wire(self):
        for net, _ in CASES:
            for source, target in permutations(net[0], 2):
                self.same(without_wire(with_wire(net, source, target), len(net[1])), net)

    def test_renaming_is_taken_back(self):
        for net, holders in CASES:
            for others in permutations(('m', 'bb', 'aa', 'zz')[:len(net[0])]):
                pairs = tuple(zip(net[0], others))
                back = tuple((other, old) for old, other in pairs)
                self.same(renamed(renamed(net, *pairs), *back), net)
                new = renamed_holders(net, holders, *pairs)
                self.same(renamed_holders(renamed(net, *pairs), new, *back), holders)

    def test_renaming_keeps_givings(self):
        for net, holders in CASES:
            others = [*net[0][1:], net[0][0]]
            pairs = tuple(zip(net[0], others))
            new = (renamed(net, *pairs), renamed_holders(net, holders, *pairs))
            for given in tuples_of(net, holders):
                if is_giving(net, holders, given):
                    self.same(lets_giving(*new, given), lets_giving(net, holders, given))
                else:
                    with self.assertRaises(InvalidPaper):
                        lets_giving(*new, given)

    def test_with_a_copy_laid_a_giving_stays_one(self):
        for net, holders, giving in cases():
            for piece, houses in enumerate(holders):
                for house in net[0]:
                    if house not in houses:
                        more = laid(net, holders, piece, house)
                        self.same(lets_giving(net, more, giving), lets_giving(net, holders, giving))

    def test_what_is_written_is_read(self):
        for net, holders in CASES:
            one, start = Net.of(net), Start.of(net, holders)
            self.same(Net.read(str(one)) == one, True)
            self.same(Start.read(net, str(start)) == start, True)
            self.same(net_read(net_text(net)), net)
            self.same(holders_read(holders_words(holders)), holders)


class NextGivingsTest(Case):

    def test_the_target_has_the_piece_and_nobody_else_more(self):
        for net, holders, giving in cases():
            before = lacking(net, holders, giving)
            for wire, piece in next_givings(net, holders, giving):
                late = after_give(net, holders, giving, wire, piece)
                gone = (net[1][wire][1], piece)
                self.assertIn(gone, before)
                self.same(lacking(net, holders, late), tuple(pair for pair in before if pair != gone))
                self.assertTrue(leads_on(late, giving))
                self.same(lets_giving(net, holders, late), lets_giving(net, holders, giving) + 1)

    def test_as_many_pairs_less(self):
        for net, holders in CASES:
            free = (-1,) * len(net[1])
            most = len(lacking(net, holders, free))
            for pairs in courses(net, holders, free):
                late = after_gives(net, holders, free, pairs)
                self.same(len(lacking(net, holders, late)), most - len(pairs))
                self.assertTrue(leads_on(late, free))

    def test_a_next_giving_of_another_wire_remains_one(self):
        for net, holders, giving in cases():
            nexts = next_givings(net, holders, giving)
            for wire, piece in nexts:
                late = after_give(net, holders, giving, wire, piece)
                for other, brought in nexts:
                    same = net[1][other][1] == net[1][wire][1] and brought == piece
                    self.same(can_give(net, holders, late, other, brought), other != wire and not same)

    def test_a_giving_that_serves_has_no_next_giving(self):
        stuck = 0
        for net, holders, giving in cases():
            self.same(serves(net, holders, giving), lacking(net, holders, giving) == ())
            if serves(net, holders, giving):
                self.same(next_givings(net, holders, giving), ())
            elif not next_givings(net, holders, giving):
                stuck += 1
        self.assertGreater(stuck, 0)

    def test_two_pairs_in_the_other_order(self):
        for net, holders, giving in cases():
            for one in next_givings(net, holders, giving):
                late = after_give(net, holders, giving, *one)
                for two in next_givings(net, holders, late):
                    if net[1][two[0]][0] == net[1][one[0]][1] and two[1] == one[1]:
                        continue
                    wanted = after_gives(net, holders, giving, (one, two))
                    self.same(after_gives(net, holders, giving, (two, one)), wanted)


class IdleWiresTest(Case):

    def test_no_wire_is_idle_exactly_if_each_given_wire_brings_something(self):
        for net, holders, giving in cases():
            held = sum(len(houses) for houses in holders)
            come = sum(len(houses) for houses in having(net, holders, giving)) - held
            given = lets_giving(net, holders, giving)
            self.assertGreaterEqual(given, come)
            self.same(idle_wires(net, holders, giving) == (), given == come)

    def test_no_wire_is_idle_after_next_givings(self):
        for net, holders in CASES:
            free = (-1,) * len(net[1])
            for pairs in courses(net, holders, free):
                self.same(idle_wires(net, holders, after_gives(net, holders, free, pairs)), ())

    def test_each_giving_without_an_idle_wire_comes_of_next_givings(self):
        for net, holders in CASES:
            free = (-1,) * len(net[1])
            come = {after_gives(net, holders, free, pairs) for pairs in courses(net, holders, free)}
            bare = {given for given in givings_of(net, holders) if not idle_wires(net, holders, given)}
            self.assertEqual(come, bare)

    def test_an_idle_wire_can_be_free_and_all_have_the_same(self):
        self.same(having(NET, HOLDERS, (-1, 0, 0, 0)), having(NET, HOLDERS, (0, 0, 0, 0)))
        self.same(having(NET, HOLDERS, FREE) == having(NET, HOLDERS, (0, 0, 0, 0)), False)


if __name__ == '__main__':
    unittest.main()
