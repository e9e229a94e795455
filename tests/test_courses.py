"""[30], [31], [32]: class Course."""

import unittest

from allpieces.comings import idle_wires, lacking, serves
from allpieces.courses import Course
from allpieces.errors import NotUsable
from allpieces.gives import after_gives, can_give, next_givings
from allpieces.nets import Net
from allpieces.starts import Start
from tests.checks import BAD_HOLDERS, BAD_HOUSE, BAD_NETS, BAD_PIECE, BAD_WIRE, Case, faults
from tests.samples import (
    ANYTHING, CASES, EQUAL, FIRST, FREE, HOLDERS, NET, ONE_HOUSE, SIDES, TWINS, courses, givings_of,
)

MADE = ((0, 0), (1, 1), (2, 0), (3, 1))
PROPERTIES = ('net', 'holders', 'pairs', 'giving', 'refused', 'lackings')


def parts(one):
    """Return all that a Course tells of itself."""
    return [getattr(one, name) for name in PROPERTIES] + [len(one), list(one)]


class CourseTest(Case):

    def test_examples(self):
        one = Course(NET, HOLDERS, (0, 0), (1, 1), (3, 0), (2, 0))
        self.same(one.pairs, ((0, 0), (1, 1)))
        self.same(one.giving, (0, 1, -1, -1))
        self.same(one.refused, 2)
        self.same(one.lackings, (4, 3, 2))
        self.same(len(one), 2)
        self.same(one.giving_after(1), FIRST)
        self.unusable('piece', 0, one.followed, 3, 0)

    def test_followed_examples(self):
        one = Course(NET, HOLDERS, (0, 0), (1, 1), (3, 0), (2, 0))
        late = one.followed(3, 1).followed(2, 0)
        self.same(late.giving, (0, 1, 0, 1))
        self.same(late.refused, None)
        self.same(late.lackings, (4, 3, 2, 1, 0))
        self.same([late.came_at('b', 1), late.came_at('a', 1), one.came_at('b', 1)], [2, -1, None])
        self.same(list(late)[2:], [(3, 1), (2, 0)])

    def test_equality_examples(self):
        one = Course(NET, HOLDERS, (0, 0), (1, 1), (3, 0), (2, 0))
        self.same(one == Course(NET, HOLDERS, (0, 0), (1, 1)), True)
        self.same(one == Course(NET, HOLDERS, (1, 1), (0, 0)), False)
        self.same(Course.along(NET, HOLDERS, (None,)).refused, 0)

    def test_no_pairs(self):
        for net, holders in CASES:
            one = Course(net, holders)
            free = (-1,) * len(net[1])
            self.same(parts(one), [net, holders, (), free, None, (len(lacking(net, holders, free)),), 0, []])
            self.same(one.giving_after(0), free)
        self.same(parts(Course(ONE_HOUSE, ())), [ONE_HOUSE, (), (), (), None, (0,), 0, []])

    def test_by_name(self):
        self.same(parts(Course(net=NET, holders=HOLDERS)), parts(Course(NET, HOLDERS)))
        self.same(parts(Course.along(net=NET, holders=HOLDERS, pairs=MADE)), parts(Course(NET, HOLDERS, *MADE)))
        one = Course(NET, HOLDERS, *MADE[:2])
        self.both_ways(FIRST, one.giving_after, k=1)
        self.both_ways(1, one.came_at, house='c', piece=1)
        self.same(one.followed(wire=2, piece=0) == one.followed(2, 0), True)

    def test_it_stops_at_any_value_that_is_no_next_giving(self):
        wrong = [value for value in ANYTHING if repr(value) not in ('(0, 0)', '(0, 1)')]
        wrong += [(4, 0), (0, 2), (-1, 0), (0, -1), (3, 0), (0, False), (False, 0), [0, 0], (0, 0, 0), ((0, 0),)]
        wrong += [Net.of(NET), Start.of(NET, HOLDERS), Course(NET, HOLDERS), (Course(NET, HOLDERS), 0)]
        for value in wrong:
            one = Course(NET, HOLDERS, value, (1, 0))
            self.same(parts(one), [NET, HOLDERS, (), FREE, 0, (4,), 0, []])
            one = Course(NET, HOLDERS, (0, 0), value, (1, 1))
            self.same(parts(one), [NET, HOLDERS, ((0, 0),), FIRST, 1, (4, 3), 1, [(0, 0)]])
            one = Course.along(NET, HOLDERS, (*MADE[:3], value, MADE[3], None))
            self.same(parts(one), [NET, HOLDERS, MADE[:3], (0, 1, 0, -1), 3, (4, 3, 2, 1), 3, list(MADE[:3])])

    def test_a_wire_is_given_once_and_a_house_comes_once(self):
        self.same(Course(NET, HOLDERS, (0, 0), (0, 0)).refused, 1)
        self.same(Course(NET, HOLDERS, (0, 0), (0, 1)).refused, 1)
        self.same(Course(NET, HOLDERS, (0, 0), (1, 0), (2, 0)).refused, 2)
        self.same(Course(EQUAL, (('a',), ('b',)), (0, 0), (3, 0)).refused, 1)

    def test_along(self):
        for wrong in (None, [], [(0, 0)], 'pairs', 0, True):
            self.unusable('pairs', -1, Course.along, NET, HOLDERS, wrong)
        self.same(parts(Course.along(NET, HOLDERS, ())), parts(Course(NET, HOLDERS)))
        self.same(parts(Course.along(NET, HOLDERS, MADE)), parts(Course(NET, HOLDERS, *MADE)))
        usable = {'net': NET, 'holders': HOLDERS, 'pairs': MADE}
        wrong = {'net': BAD_NETS, 'holders': BAD_HOLDERS, 'pairs': faults('pairs', None, [(0, 0)], 'x', 3)}
        self.first_error(Course.along, usable, wrong)

    def test_errors(self):
        self.first_error(Course, {'net': NET, 'holders': HOLDERS}, {'net': BAD_NETS, 'holders': BAD_HOLDERS})
        for net, word, at in BAD_NETS:
            self.unusable(word, at, Course, net, HOLDERS, None)
        for holders, word, at in BAD_HOLDERS:
            self.unusable(word, at, Course, NET, holders, (0, 0))

    def test_giving_after(self):
        for net, holders in CASES:
            free = (-1,) * len(net[1])
            for pairs in courses(net, holders, free):
                one = Course(net, holders, *pairs)
                for k in range(len(pairs) + 1):
                    self.same(one.giving_after(k), after_gives(net, holders, free, pairs[:k]))
                self.unusable('k', -1, one.giving_after, len(pairs) + 1)

    def test_giving_after_refuses(self):
        one = Course(NET, HOLDERS, *MADE[:2], None)
        for value in ANYTHING:
            if repr(value) not in ('0', '1', '2'):
                self.unusable('k', -1, one.giving_after, value)
        self.same([one.giving_after(k) for k in range(3)], [FREE, FIRST, (0, 1, -1, -1)])

    def test_came_at(self):
        for net, holders in CASES:
            free = (-1,) * len(net[1])
            for pairs in courses(net, holders, free):
                one = Course(net, holders, *pairs)
                for house in net[0]:
                    for piece, held in enumerate(holders):
                        brought = [k for k, pair in enumerate(pairs) if (net[1][pair[0]][1], pair[1]) == (house, piece)]
                        wanted = -1 if house in held else brought[0] if brought else None
                        self.same(one.came_at(house, piece), wanted)

    def test_came_at_refuses(self):
        usable = {'house': 'b', 'piece': 0}
        for one in (Course(NET, HOLDERS), Course(NET, HOLDERS, *MADE)):
            self.first_error(one.came_at, usable, {'house': BAD_HOUSE, 'piece': BAD_PIECE})
            for value in ANYTHING:
                if value not in NET[0]:
                    self.unusable('house', value, one.came_at, value, value)
                if repr(value) not in ('0', '1'):
                    self.unusable('piece', value, one.came_at, 'b', value)
        self.unusable('piece', 0, Course(NET, ()).came_at, 'a', 0)

    def test_followed(self):
        for net, holders in CASES:
            for pairs in courses(net, holders, (-1,) * len(net[1])):
                one = Course(net, holders, *pairs, None)
                before = parts(one)
                for wire in range(len(net[1])):
                    for piece in range(len(holders)):
                        if can_give(net, holders, one.giving, wire, piece):
                            late = Course(net, holders, *pairs, (wire, piece))
                            self.same(parts(one.followed(wire, piece)), parts(late))
                        else:
                            self.unusable('piece', piece, one.followed, wire, piece)
                self.same(parts(one), before)

    def test_followed_refuses(self):
        one = Course(NET, HOLDERS, (0, 0))
        self.first_error(one.followed, {'wire': 1, 'piece': 1}, {'wire': BAD_WIRE, 'piece': BAD_PIECE})
        for value in ANYTHING:
            if repr(value) not in ('0', '1', '2'):
                self.unusable('wire', value, one.followed, value, None)
            if repr(value) not in ('0', '1'):
                self.unusable('piece', value, one.followed, 1, value)
        self.unusable('piece', 1, one.followed, 0, 1)

    def test_equal(self):
        one = Course(NET, HOLDERS, (0, 0), (1, 1))
        for value in (None, (3, 0), (0, 0), (1, 1), (True, 1), 'x'):
            self.same(one == Course(NET, HOLDERS, (0, 0), (1, 1), value), True)
            self.same(one != Course(NET, HOLDERS, (0, 0), (1, 1), value), False)
        longer = (NET[0], (*NET[1], ('a', 'b')))
        others = [
            Course(NET, HOLDERS), Course(NET, HOLDERS, (0, 0)), Course(NET, HOLDERS, (1, 1), (0, 0)), one.followed(2, 0),
            Course(NET, (('a',), ('a', 'b')), (0, 0), (1, 1)), Course(longer, HOLDERS, (0, 0), (1, 1)),
            Course(NET, HOLDERS, (0, 0), (1, 0)), Net.of(NET), Start.of(NET, HOLDERS), (NET, HOLDERS, one.pairs),
        ]
        for other in (*others, *ANYTHING, one.pairs, list(one), one.giving):
            self.same(one == other, False)
            self.same(one != other, True)
        self.same(Course(TWINS, SIDES) == Course(TWINS, SIDES, None), True)

    def test_iterated_twice_and_within_itself(self):
        one = Course(NET, HOLDERS, *MADE, None)
        self.same(list(one), list(MADE))
        self.same([(pair, other) for pair in one for other in one], [(pair, other) for pair in MADE for other in MADE])
        self.same((2, 0) in one, True)
        self.same(len(one), 4)

    def test_it_never_changes(self):
        one = Course(NET, HOLDERS, (0, 0), None)
        before = parts(one)
        for name in PROPERTIES:
            with self.assertRaises(AttributeError):
                setattr(one, name, ())
        list(one).append((1, 1))
        one.followed(1, 1)
        for call in (lambda: one.followed(0, 1), lambda: one.came_at('d', 0), lambda: one.giving_after(2)):
            with self.assertRaises(NotUsable):
                call()
        self.same(parts(one), before)


class CourseConsequencesTest(Case):

    def test_lackings(self):
        for net, holders in CASES:
            for pairs in courses(net, holders, (-1,) * len(net[1])):
                one = Course(net, holders, *pairs)
                wanted = [len(lacking(net, holders, one.giving_after(k))) for k in range(len(pairs) + 1)]
                self.same(one.lackings, tuple(wanted))
                self.assertTrue(all(late == early - 1 for early, late in zip(wanted, wanted[1:])))
                self.same(one.lackings[-1] == 0, serves(net, holders, one.giving))

    def test_after_gives(self):
        for net, holders in CASES:
            free = (-1,) * len(net[1])
            for pairs in courses(net, holders, free):
                for value in (None, (0, 0), (1, 0), (3, 1)):
                    one = Course(net, holders, *pairs, value, value)
                    self.same(one.giving, after_gives(net, holders, free, one.pairs))
                    self.same(Course.along(one.net, one.holders, one.pairs) == one, True)
                    self.same(one.refused, len(one))
                    self.unusable('pairs', len(one), after_gives, net, holders, free, (*pairs, value, value))

    def test_no_wire_is_idle(self):
        for net, holders in CASES:
            come = set()
            for pairs in courses(net, holders, (-1,) * len(net[1])):
                come.add(Course(net, holders, *pairs).giving)
            bare = {giving for giving in givings_of(net, holders) if not idle_wires(net, holders, giving)}
            self.assertEqual(come, bare)

    def test_two_pairs_in_the_other_order(self):
        for net, holders in CASES:
            for pairs in courses(net, holders, (-1,) * len(net[1])):
                if len(pairs) < 2:
                    continue
                (one, brought), (two, later) = pairs[-2:]
                fed = net[1][two][0] == net[1][one][1] and later == brought
                turned = Course(net, holders, *pairs[:-2], pairs[-1], pairs[-2])
                if not fed:
                    self.same(turned.giving, Course(net, holders, *pairs).giving)

    def test_it_goes_on_as_long_as_there_is_a_next_giving(self):
        for net, holders in CASES:
            one = Course(net, holders)
            while next_givings(net, holders, one.giving):
                one = one.followed(*next_givings(net, holders, one.giving)[-1])
            self.same(one.lackings, tuple(range(one.lackings[0], one.lackings[-1] - 1, -1)))


if __name__ == '__main__':
    unittest.main()
