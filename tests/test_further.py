"""(O5) of [9], [48], [49], [51]: further copies."""

import unittest
from itertools import combinations, product

from allpieces.further import apart_sets, enough, fewest_further, further_copies, spared
from allpieces.netchanges import laid
from allpieces.soundness import is_sound
from tests.checks import BAD_GIVINGS, BAD_HOLDERS, BAD_NETS, Case, faults
from tests.samples import (
    ANYTHING, APART, EQUAL, FIRST, FREE, HOLDERS, MUCH, NARROW, NET, ONE, ONE_HOUSE, SIDES, TWINS, VAIN, Dice, cases,
    sets_of, slow_having, slow_slack, slow_slacks, slow_sound, small_cases, wide_cases,
)


def slow_enough(net, holders, giving, numbers):
    """Return whether the numbers are enough, set by set."""
    own = dict(zip(net[0], numbers))
    return all(
        slack + sum(own[house] for house in houses) >= 0
        for houses, slack in slow_slacks(net, holders, giving).items()
    )


def less_by_one(numbers):
    """Yield the numbers with one of them less by one."""
    for k, number in enumerate(numbers):
        if number > 0:
            yield (*numbers[:k], number - 1, *numbers[k + 1:])


def slow_apart(short, used=()):
    """Return by how many wires sets apart fall short together, at most; short has pairs (houses, by how many)."""
    if not short:
        return 0
    (houses, many), rest = short[0], short[1:]
    best = slow_apart(rest, used)
    if not set(houses) & set(used):
        best = max(best, many + slow_apart(rest, (*used, *houses)))
    return best


def short_sets(net, holders, giving):
    """Return a list of the sets that fall short, and by how many wires."""
    return [(houses, -slack) for houses, slack in slow_slacks(net, holders, giving).items() if slack < 0]


def all_copies(net, holders, giving):
    """Return a list of the pairs of a piece and a house that lacks it."""
    found = slow_having(net, holders, giving)
    return [(piece, house) for piece, owners in enumerate(found) for house in net[0] if house not in owners]


def with_copies(net, holders, copies):
    """Return the holders with the copies laid."""
    for piece, house in copies:
        holders = laid(net, holders, piece, house)
    return holders


class FurtherTest(Case):

    def check(self, net, holders, giving):
        """Check all but the fewest numbers by what they have to be, and return how many copies there are."""
        numbers = fewest_further(net, holders, giving)
        copies = further_copies(net, holders, giving)
        sets = apart_sets(net, holders, giving)
        for result in (numbers, copies, sets):
            self.assertIsInstance(result, tuple)
        self.assertEqual(len(numbers), len(net[0]))
        self.assertTrue(all(type(number) is int and number >= 0 for number in numbers))
        self.assertTrue(slow_enough(net, holders, giving, numbers))
        self.assertEqual(list(copies), sorted(set(copies)))
        self.assertLessEqual(set(copies), set(all_copies(net, holders, giving)))
        self.assertTrue(slow_sound(net, with_copies(net, holders, copies), giving))
        self.assertEqual(list(sets), sorted(set(sets)))
        self.assertLessEqual(set(sets), set(sets_of(net[0])))
        self.assertTrue(all(slow_slack(net, holders, giving, houses) < 0 for houses in sets))
        self.assertTrue(all(not set(one) & set(two) for one, two in combinations(sets, 2)))
        many = -sum(slow_slack(net, holders, giving, houses) for houses in sets)
        # Sets apart need a copy each for each wire they are short of, so nothing can do with less.
        self.assertEqual((sum(numbers), len(copies)), (many, many))
        self.same(many == 0, slow_sound(net, holders, giving))
        return many

    def test_examples(self):
        named = {'net': NARROW, 'holders': HOLDERS, 'giving': FREE}
        self.both_ways(True, enough, **named, numbers=(0, 0, 1))
        self.both_ways(False, enough, **named, numbers=(5, 0, 0))
        self.same(sum(spared(**named, numbers=(2, 2, 2))), 1)
        self.both_ways(None, spared, **named, numbers=(1, 0, 0))
        self.same(sum(fewest_further(**named)), 1)
        self.same(len(further_copies(**named)), 1)
        self.both_ways((('b', 'c'),), apart_sets, **named)

    def test_nothing_short(self):
        named = {'net': NET, 'holders': HOLDERS, 'giving': FIRST}
        self.both_ways((0, 0, 0), fewest_further, **named)
        self.both_ways((), further_copies, **named)
        self.both_ways((), apart_sets, **named)
        self.both_ways((0, 0, 0), spared, **named, numbers=(3, 0, 1))
        self.same(enough(**named, numbers=(0, 0, 0)), True)
        for net, holders, giving in ((NET, (), FREE), (ONE_HOUSE, ONE, ()), (NET, HOLDERS, (0, 1, 0, 1)), (NET, ONE, VAIN)):
            self.same(self.check(net, holders, giving), 0)

    def test_two_sets_apart(self):
        self.same(apart_sets(TWINS, SIDES, FREE), (('a', 'b'), ('c', 'd')))
        self.same(self.check(TWINS, SIDES, FREE), 2)
        copies = further_copies(TWINS, SIDES, FREE)
        self.same([piece for piece, _ in copies], [0, 1])
        self.assertIn(copies[0][1], ('c', 'd'))
        self.assertIn(copies[1][1], ('a', 'b'))

    def test_a_family_of_sets(self):
        self.same(self.check(APART, (('a',), ('b',), ('a', 'b')), ()), 5)
        self.same(apart_sets(APART, (('a',), ('b',), ('a', 'b')), ()), (('a',), ('b',), ('c',)))
        self.same(fewest_further(APART, (('a',), ('b',), ('a', 'b')), ()), (1, 1, 3))
        wanted = ((0, 'b'), (0, 'c'), (1, 'a'), (1, 'c'), (2, 'c'))
        self.same(further_copies(APART, (('a',), ('b',), ('a', 'b')), ()), wanted)

    def test_sets_that_cross(self):
        net = (('a', 'b', 'c', 'd'), (('a', 'b'), ('a', 'd'), ('b', 'c'), ('c', 'b'), ('c', 'd'), ('d', 'c')))
        holders = (('a',),) * 3
        short = [houses for houses, _ in short_sets(net, holders, (-1,) * 6)]
        self.same(short, [('b',), ('c',), ('d',), ('b', 'c'), ('c', 'd'), ('b', 'c', 'd')])
        self.same(self.check(net, holders, (-1,) * 6), 3)
        self.same(apart_sets(net, holders, (-1,) * 6), (('b',), ('c',), ('d',)))

    def test_sets_within_sets(self):
        net = (('a', 'b', 'c', 'd'), (('a', 'b'), ('b', 'c'), ('c', 'd'), ('d', 'b'), ('d', 'c')))
        short = [houses for houses, _ in short_sets(net, HOLDERS, (-1,) * 5)]
        self.same(short, [('d',), ('c', 'd'), ('b', 'c', 'd')])
        self.same(self.check(net, HOLDERS, (-1,) * 5), 1)
        self.same(self.check(net, (('a',),) * 3, (-1,) * 5), 4)

    def test_small_nets(self):
        for net, holders, giving in small_cases():
            many = self.check(net, holders, giving)
            self.same(slow_apart(short_sets(net, holders, giving)), many)
            tuples = product(range(len(holders) + 1), repeat=len(net[0]))
            sums = [sum(numbers) for numbers in tuples if slow_enough(net, holders, giving, numbers)]
            self.same(min(sums), many)
            for fewer in combinations(all_copies(net, holders, giving), max(many - 1, 0)):
                if many:
                    self.assertFalse(slow_sound(net, with_copies(net, holders, fewer), giving))

    def test_wide_nets(self):
        found = [self.check(*case) for case in wide_cases()]
        self.assertGreater(max(found), 5)
        self.assertGreater(found.count(0), 50)

    def test_errors(self):
        usable = {'net': NET, 'holders': HOLDERS, 'giving': FIRST}
        wrong = {'net': BAD_NETS, 'holders': BAD_HOLDERS, 'giving': BAD_GIVINGS}
        for function in (fewest_further, further_copies, apart_sets):
            self.first_error(function, usable, wrong)
            for value in ANYTHING:
                if value != FREE:
                    self.unusable('giving', -1, function, NET, HOLDERS, value)


class NumbersTest(Case):

    def check_spared(self, net, holders, giving, numbers):
        """Check enough and spared by all sets."""
        fits = slow_enough(net, holders, giving, numbers)
        self.same(enough(net, holders, giving, numbers), fits)
        less = spared(net, holders, giving, numbers)
        if not fits:
            self.same(less, None)
            return
        self.assertIsInstance(less, tuple)
        self.assertEqual(len(less), len(numbers))
        self.assertTrue(all(type(number) is int and number >= 0 for number in less))
        self.assertTrue(all(new <= old for new, old in zip(less, numbers)))
        self.assertTrue(slow_enough(net, holders, giving, less))
        self.assertFalse(any(slow_enough(net, holders, giving, fewer) for fewer in less_by_one(less)))
        self.same(sum(less), sum(fewest_further(net, holders, giving)))
        self.same(spared(net, holders, giving, less), less)

    def test_small_nets(self):
        for k, (net, holders, giving) in enumerate(small_cases()):
            for numbers in product(range(len(holders) + 1), repeat=len(net[0])):
                if k % 3 == 0 or sum(numbers) % 5 == k % 5:
                    self.check_spared(net, holders, giving, numbers)

    def test_wide_nets(self):
        dice = Dice(2)
        for net, holders, giving in wide_cases():
            for most in (2, 4, MUCH):
                self.check_spared(net, holders, giving, tuple(dice.throw(most) for house in net[0]))
            self.check_spared(net, holders, giving, fewest_further(net, holders, giving))

    def test_great_numbers(self):
        for net, holders, giving in ((NARROW, HOLDERS, FREE), (TWINS, SIDES, FREE), (APART, (('a',), ('b',)), ())):
            houses = len(net[0])
            for numbers in product((0, 1, MUCH), repeat=houses):
                self.check_spared(net, holders, giving, numbers)
        self.same(spared(APART, (('a',), ('b',)), (), (MUCH, MUCH, MUCH)), (1, 1, 2))
        self.same(spared(APART, (('a',), ('b',)), (), (1, 1, MUCH)), (1, 1, 2))
        self.same(spared(APART, (('a',), ('b',)), (), (MUCH, MUCH, 1)), None)

    def test_just_enough(self):
        named = {'net': APART, 'holders': (('a',), ('b',)), 'giving': ()}
        self.both_ways(True, enough, **named, numbers=(1, 1, 2))
        self.both_ways((1, 1, 2), spared, **named, numbers=(1, 1, 2))
        self.both_ways((1, 1, 2), spared, **named, numbers=(1, 2, 2))
        for numbers in ((0, 1, 2), (1, 0, 2), (1, 1, 1), (0, 0, 0)):
            self.both_ways(False, enough, **named, numbers=numbers)
            self.both_ways(None, spared, **named, numbers=numbers)

    def test_numbers_are_looked_at_after_the_others(self):
        usable = {'net': NET, 'holders': HOLDERS, 'giving': FIRST, 'numbers': (0, 1, 0)}
        few = faults('numbers', None, [0, 0, 0], (0, 0), (0, -1, 0))
        wrong = {'net': BAD_NETS, 'holders': BAD_HOLDERS, 'giving': BAD_GIVINGS, 'numbers': few}
        for function in (enough, spared):
            self.first_error(function, usable, wrong)

    def test_what_are_no_numbers(self):
        for function in (enough, spared):
            for value in (*ANYTHING, (), (0, 0, 0, 0), (0, True, 0), (0, 0, False), (0, None, 0), (0, 0, '0')):
                self.unusable('numbers', -1, function, NET, HOLDERS, FIRST, value)
            for value in ANYTHING:
                if not (type(value) is int and value >= 0):
                    self.unusable('numbers', -1, function, NET, HOLDERS, FIRST, (0, 0, value))


class FurtherConsequencesTest(Case):

    def test_numbers_of_which_none_can_be_less_have_one_sum(self):
        for net, holders, giving in cases():
            many = sum(fewest_further(net, holders, giving))
            for numbers in product(range(len(holders) + 1), repeat=len(net[0])):
                if slow_enough(net, holders, giving, numbers):
                    if not any(slow_enough(net, holders, giving, fewer) for fewer in less_by_one(numbers)):
                        self.same(sum(numbers), many)
                        self.same(spared(net, holders, giving, numbers), numbers)

    def test_copies_for_any_fewest_numbers(self):
        for net, holders, giving in [*cases()][::5]:
            many = sum(fewest_further(net, holders, giving))
            wanted = {
                numbers for numbers in product(range(len(holders) + 1), repeat=len(net[0]))
                if sum(numbers) == many and slow_enough(net, holders, giving, numbers)
            }
            found = set()
            for copies in combinations(all_copies(net, holders, giving), many):
                if slow_sound(net, with_copies(net, holders, copies), giving):
                    found.add(tuple(sum(name == house for _, name in copies) for house in net[0]))
            self.assertEqual(found, wanted)

    def test_a_copy_changes_a_slack_by_0_or_1(self):
        for net, holders, giving in cases():
            for copy in all_copies(net, holders, giving):
                late = with_copies(net, holders, (copy,))
                for houses in sets_of(net[0]):
                    more = slow_slack(net, late, giving, houses) - slow_slack(net, holders, giving, houses)
                    self.assertIn(more, (0, 1))

    def test_with_fewer_copies_it_is_not_sound(self):
        for net, holders, giving in ((TWINS, SIDES, FREE), (NARROW, HOLDERS, FREE), (EQUAL, (('a',),) * 4, FREE),
                                     (APART, (('a',), ('b',)), ())):
            many = sum(fewest_further(net, holders, giving))
            self.assertGreater(many, 0)
            for fewer in combinations(all_copies(net, holders, giving), many - 1):
                self.same(is_sound(net, with_copies(net, holders, fewer), giving), False)


if __name__ == '__main__':
    unittest.main()
