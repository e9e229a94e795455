"""The most that can be brought to a house, also where there is much room, against all sets of houses."""

import unittest

from allpieces.bringing import greatest_set, least_set, most_brought
from allpieces.flows import fullest_flow, reached
from tests.checks import Case
from tests.samples import Dice, sets_of

MUCH = 10 ** 60


def slow_sum(links, stocks, houses):
    """Return the links into the set and the stocks at it, together."""
    into = [times for source, target, times in links if source not in houses and target in houses]
    return sum(into) + sum(times for owners, times in stocks if set(owners) & set(houses))


def bulk(dice, houses, links, stocks, most):
    """Return houses, links and stocks that the dice give."""
    net, holders = dice.net(houses, links, stocks)
    links = [(source, target, dice.throw(most + 1)) for source, target in net[1]]
    return net[0], links, [(owners, dice.throw(most + 1)) for owners in holders]


class BringingTest(Case):

    def test_all_sets(self):
        dice = Dice(3)
        for turn in range(200):
            most = (1, 3, MUCH)[turn % 3]
            houses, links, stocks = bulk(dice, 2 + turn % 5, dice.throw(13), dice.throw(7), most)
            for house in houses:
                sums = {some: slow_sum(links, stocks, some) for some in sets_of(houses) if house in some}
                least = min(sums.values())
                some = [set(each) for each, total in sums.items() if total == least]
                self.same(most_brought(links, stocks, house), least)
                self.same(least_set(houses, links, stocks, house), tuple(sorted(set.intersection(*some))))
                self.same(greatest_set(houses, links, stocks, house), tuple(sorted(set.union(*some))))

    def test_a_narrow_middle_does_not_make_it_long(self):
        links = [('a', 'b', MUCH), ('a', 'c', MUCH), ('b', 'c', 1), ('b', 'd', MUCH), ('c', 'd', MUCH)]
        self.same(most_brought(links, [(('a',), 2 * MUCH)], 'd'), 2 * MUCH)

    def test_flow_is_taken_back(self):
        arcs = [('s', 'a', 1), ('a', 'd', 1), ('d', 't', 1), ('s', 'b', 1), ('b', 'c', 1), ('c', 'd', 1),
                ('a', 'e', 1), ('e', 'f', 1), ('f', 'g', 1), ('g', 't', 1)]
        self.same(fullest_flow(arcs, 's', 't'), [1, 0, 1, 1, 1, 1, 1, 1, 1, 1])

    def test_paths_are_shortest(self):
        # Otherwise their number could grow with the room, and nobody can take so many steps.
        dice = Dice(9)
        for _ in range(100):
            _, arcs, _ = bulk(dice, 6, 12, 1, 2)
            free = reached(arcs, [0] * len(arcs), 'a')
            near = {'a': 0}
            for far in range(1, 6):
                for tail, head, room in arcs:
                    if room and near.get(tail) == far - 1:
                        near.setdefault(head, far)
            self.assertEqual(set(free), set(near))
            for house in near:
                place, many = house, 0
                while free[place] is not None:
                    place, many = free[place][0], many + 1
                self.assertEqual(many, near[house])

    def test_nothing_to_bring(self):
        self.same(most_brought([], [], 'a'), 0)
        self.same(least_set(('a', 'b'), [], [], 'a'), ('a',))
        self.same(greatest_set(('a', 'b'), [], [], 'a'), ('a', 'b'))
        self.same(most_brought([], [(('a', 'b'), 4)], 'a'), 4)


if __name__ == '__main__':
    unittest.main()
