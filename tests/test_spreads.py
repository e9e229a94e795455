"""[60] to [65]: events, and class Spread."""

import unittest

from allpieces.courses import Course
from allpieces.errors import InvalidEvent, NothingToUndo, NotUsable
from allpieces.guarded import Guarded
from allpieces.nets import Net
from allpieces.spreads import Spread
from tests.checks import BAD_HOLDERS, BAD_NETS, Case, own_faults
from tests.samples import ANYTHING, APART, HOLDERS, NET, ONE_HOUSE, SIDES, TWINS, changed
from tests.spreading import (
    FULL, ONE_MORE, WIDE, WIDE_HOLDERS, Rows, Slow, all_events, is_event, spread_after, starts, told, wanted,
)

HOLDERS_ALL = (('a', 'b', 'c'), ('a', 'b', 'c'))
PROPERTIES = ('net', 'holders', 'giving', 'having', 'lost', 'is_shut')
NO_EVENTS = [
    ('give', 0), ('give', 0, 0, 0), ('give', 0, -1), ('give', -1, 0), ('give', 'a', 0), ('give', True, 0),
    ('give', 0, False), ['give', 0, 0], ('lose',), ('lose', -1), ('lose', True), ('lose', 'a'), ('lose', 0, 0),
    ('lay', 0), ('lay', 'c', 0), ('lay', 0, 'C'), ('lay', 0, ''), ('lay', 0, 'abcdefghi'), ('lay', True, 'c'), ('undo',),
    ('shut',), ('spread', NET, HOLDERS), Net.of(NET), Course(NET, HOLDERS),
]


def full_spread(shape=Spread):
    """Return a spread with as many events as it takes."""
    return spread_after(*FULL, net=WIDE, holders=WIDE_HOLDERS, shape=shape)


class ExamplesTest(Case):

    def test_examples(self):
        spread = Spread(NET, HOLDERS)
        found = [spread.give(0, 0), spread.give(1, 0), spread.short_now(), spread.lay(1, 'c'), spread.having, spread.holders]
        self.same(found, ['going', 'short', ('b', 'c'), 'going', (('a', 'b', 'c'), ('a', 'c')), (('a',), ('a', 'c'))])
        found = [spread.barred(event) for event in (('give', 3, 0), ('give', 2, 1), ('lose', 0), ('lay', 0, 'b'))]
        self.same(found, ['has', 'piece', 'wire', 'house'])
        found = [spread.tried(('lose', 2), ('give', 3, 1)), list(spread)[1:], ('give', 1, False) in spread]
        self.same(found, [((('a', 'b', 'c'), ('a', 'b', 'c')), (2,), 'all'), [('give', 1, 0), ('lay', 1, 'c')], False])
        self.same([spread.undo(), spread.state()], [('lay', 1, 'c'), 'short'])

    def test_by_name(self):
        spread = Spread(net=NET, holders=HOLDERS)
        self.same([spread.give(wire=0, piece=0), spread.lay(piece=1, house='c'), spread.lose(wire=2)], ['going'] * 3)
        self.same(spread.apply(event=('give', 3, 1)), 'going')
        self.same(spread.barred(event=('lose', 1)), None)
        self.same(spread(event=('give', 1, 0)), 'all')
        self.same(spread.do_all(keep=True), 0)
        self.same(list(spread), [('give', 0, 0), ('lay', 1, 'c'), ('lose', 2), ('give', 3, 1), ('give', 1, 0)])

    def test_a_new_one(self):
        self.same(Spread.MOST, 24)
        for net, holders in starts():
            spread = Spread(net, holders)
            self.same(told(spread), wanted(Slow(net, holders)))
            self.same(spread.tally(), (0, 0))
            self.same(spread.giving, (-1,) * len(net[1]))
            self.same(spread.having, holders)
            self.same(spread.log(), (('spread', net, holders),))

    def test_states_from_the_beginning(self):
        for net, holders, state in ((NET, HOLDERS, 'going'), (TWINS, SIDES, 'short'), (NET, (), 'all'), (APART, (), 'all'),
                                    (ONE_HOUSE, (('a',),), 'all'), (NET, (NET[0],), 'all'), (APART, (('a',),), 'short')):
            self.same(Spread(net, holders).state(), state)
        self.same(Spread(NET, HOLDERS).short_now(), None)
        self.assertIn(Spread(TWINS, SIDES).short_now(), [('a', 'b'), ('c', 'd')])

    def test_errors_of_a_new_one(self):
        self.first_error(Spread, {'net': NET, 'holders': HOLDERS}, {'net': BAD_NETS, 'holders': BAD_HOLDERS})
        for value in ANYTHING:
            if value not in (NET, (('a', 'b'), ()), (('a', 'b'), (('a', 'b'),))):
                self.unusable('net', -1, Spread, value, HOLDERS)
            if value not in ((), (('a',),), HOLDERS, (('a', 'b'),)):
                self.unusable('holders', -1, Spread, NET, value)


class ReasonsTest(Case):

    def check(self, spread, event, reason):
        """Check that a value is refused for this reason, in each way, and that nothing changes by it."""
        before, (many, _) = told(spread), spread.tally()
        self.same(spread.barred(event), reason)
        for call in (spread.apply, spread, spread.tried, spread.do_all):
            error = self.refuses(event, reason, call, event)
            self.assertIs(error.event, event)
        if type(event) is tuple and len(event) == 3 and event[0] == 'give':
            self.refuses(event, reason, spread.give, *event[1:])
            self.refuses(event, reason, spread.give, wire=event[1], piece=event[2])
        self.same(told(spread), before)
        self.assertGreaterEqual(spread.tally()[0], many + 3)
        self.same(*spread.tally())

    def test_shape(self):
        for event in (*NO_EVENTS, *[value for value in ANYTHING if not is_event(value)]):
            self.check(spread_after(('give', 0, 0)), event, 'shape')

    def test_shape_of_what_methods_are_told(self):
        spread = Spread(NET, HOLDERS)
        for value in ANYTHING:
            if not (type(value) is int and value >= 0):
                self.refuses(('give', value, 0), 'shape', spread.give, value, 0)
                self.refuses(('give', 0, value), 'shape', spread.give, 0, value)
                self.refuses(('lose', value), 'shape', spread.lose, value)
                self.refuses(('lay', value, 'b'), 'shape', spread.lay, value, 'b')
            if not is_event(('lay', 0, value)):
                self.refuses(('lay', 0, value), 'shape', spread.lay, 0, value)
        self.same(told(spread), wanted(Slow(NET, HOLDERS)))

    def test_one_thing_changed(self):
        spread = spread_after(('give', 0, 0), ('lose', 2))
        slow = Slow(NET, HOLDERS, list(spread))
        said = set()
        for event in (('give', 1, 1), ('lose', 1), ('lay', 1, 'c')):
            for other in changed(event):
                self.same(spread.barred(other), slow.reason(other))
                said.add(spread.barred(other))
        self.assertEqual(said, {'shape', 'wire', 'piece', 'house', None})

    def test_closed(self):
        spread = spread_after(('give', 0, 0))
        spread.shut()
        for event in all_events(NET, HOLDERS):
            self.check(spread, event, 'closed')
        self.refuses(('give', 1, 1), 'closed', spread.give, 1, 1)
        self.refuses(('lose', 1), 'closed', spread.lose, 1)
        self.refuses(('lay', 1, 'c'), 'closed', spread.lay, 1, 'c')
        self.refuses(('lay', 1, None), 'shape', spread.lay, 1, None)

    def test_full(self):
        spread = full_spread()
        self.same(len(spread), 24)
        for event in (ONE_MORE, ('give', 0, 0), ('lose', 0), ('lose', 99), ('lay', 0, 'a'), ('lay', 9, 'zz')):
            self.check(spread, event, 'full')
        self.check(spread, ('lay', 9, 'Z'), 'shape')
        spread.shut()
        self.check(spread, ONE_MORE, 'closed')

    def test_wire(self):
        spread = spread_after(('give', 0, 0), ('lose', 2))
        for wire in (0, 2, 4, 10 ** 59):
            for piece in (0, 1, 2, 10 ** 59):
                self.check(spread, ('give', wire, piece), 'wire')
            self.check(spread, ('lose', wire), 'wire')
            self.refuses(('lose', wire), 'wire', spread.lose, wire)

    def test_piece(self):
        spread = spread_after(('give', 0, 0))
        for event in (('give', 1, 2), ('give', 1, 10 ** 59), ('give', 2, 1), ('give', 3, 0), ('give', 3, 1),
                      ('lay', 2, 'b'), ('lay', 10 ** 59, 'zz'), ('lay', 2, 'zz')):
            self.check(spread, event, 'piece')
        # The source lacks it, and the target has it.
        net = (('a', 'b'), (('a', 'b'), ('b', 'a')))
        self.check(Spread(net, (('a',),)), ('give', 1, 0), 'piece')
        self.check(Spread(net, ()), ('give', 0, 0), 'piece')
        self.check(Spread(net, ()), ('lay', 0, 'a'), 'piece')

    def test_has(self):
        spread = spread_after(('give', 0, 0), ('give', 1, 0))
        self.check(spread, ('give', 2, 0), 'has')
        self.check(spread, ('give', 3, 0), 'has')
        self.check(spread_after(('lay', 1, 'b')), ('give', 0, 1), 'has')

    def test_house(self):
        spread = spread_after(('give', 0, 0), ('lay', 1, 'c'))
        for event in (('lay', 0, 'a'), ('lay', 0, 'b'), ('lay', 1, 'c'), ('lay', 0, 'd'), ('lay', 1, 'zz')):
            self.check(spread, event, 'house')
            self.refuses(event, 'house', spread.lay, *event[1:])
        self.same(spread.barred(('lay', 0, 'c')), None)

    def test_what_came_by_a_copy_can_be_given_on(self):
        spread = Spread(APART, (('a',), ('b',)))
        self.same([spread.lay(0, 'b'), spread.lay(0, 'c'), spread.lay(1, 'a'), spread.lay(1, 'c')], ['short'] * 3 + ['all'])
        spread = Spread(NET, HOLDERS)
        self.check(spread, ('give', 3, 1), 'piece')
        self.same([spread.lay(1, 'c'), spread.give(3, 1)], ['going', 'going'])
        self.same(spread.having, (('a',), ('a', 'b', 'c')))


class MostTest(Case):

    def test_exactly_so_many(self):
        spread = Spread(WIDE, WIDE_HOLDERS)
        for k, event in enumerate(FULL):
            self.same(spread.barred(event), None)
            spread.apply(event)
            self.same(len(spread), k + 1)
        self.refuses(ONE_MORE, 'full', spread.lay, 3, 'f')
        self.same(spread.undo(), FULL[-1])
        self.same(spread.lay(3, 'f'), 'short')
        self.refuses(FULL[-1], 'full', spread.apply, FULL[-1])
        self.same(list(spread), [*FULL[:-1], ONE_MORE])

    def test_what_tried_and_do_all_have_made_so_far(self):
        for many in range(25):
            spread = spread_after(*FULL[:many], net=WIDE, holders=WIDE_HOLDERS)
            self.same(spread.tried(*FULL[many:])[1], tuple(range(16)))
            self.refuses(ONE_MORE, 'full', spread.tried, *FULL[many:], ONE_MORE)
            self.refuses(ONE_MORE, 'full', spread.do_all, *FULL[many:], ONE_MORE)
            self.same(len(spread), many)
            self.refuses(ONE_MORE, 'full', spread.do_all, *FULL[many:], ONE_MORE, None, keep=True)
            self.same(list(spread), list(FULL))

    def test_a_class_with_another_most(self):
        class Few(Spread):
            MOST = 2
        few = Few(NET, HOLDERS)
        self.same([few.give(0, 0), few.give(1, 1), few.barred(('give', 2, 0))], ['going', 'going', 'full'])
        self.same(few == spread_after(('give', 0, 0), ('give', 1, 1)), True)


class UndoTest(Case):

    def test_undo(self):
        spread = Spread(NET, HOLDERS)
        events = (('give', 0, 0), ('lay', 1, 'c'), ('lose', 2), ('give', 1, 0), ('give', 3, 1))
        before = []
        for event in events:
            before.append(told(spread))
            spread.apply(event)
        self.same(spread.state(), 'all')
        for event in events[::-1]:
            self.same(spread.undo(), event)
            self.same(told(spread), before.pop())
        self.refused(NothingToUndo, {'steps': 0}, spread.undo)
        self.same(told(spread), wanted(Slow(NET, HOLDERS)))

    def test_closed(self):
        for events in ((), (('lose', 0),)):
            spread = spread_after(*events)
            spread.shut()
            self.refuses(('undo',), 'closed', spread.undo)
            self.same(list(spread), list(events))


class ShutTest(Case):

    def test_shut(self):
        spread = spread_after(('give', 0, 0))
        before = told(spread)
        self.same([spread.is_shut, spread.shut(), spread.is_shut], [False, None, True])
        self.same([spread.shut(), spread.is_shut], [None, True])
        before[5] = True
        self.same(told(spread), before)
        self.same(spread.tried(), ((('a', 'b'), ('a',)), (), 'going'))
        self.same(spread.do_all(), 0)
        self.same(spread.tally(), (4, 4))

    def test_with(self):
        spread = Spread(NET, HOLDERS)
        with spread as same:
            self.assertIs(same, spread)
            same.give(0, 0)
            self.same(spread.is_shut, False)
        self.same([spread.is_shut, len(spread), spread.tally()], [True, 1, (1, 1)])
        with spread as same:
            self.assertIs(same, spread)
            self.refuses(('give', 1, 1), 'closed', same.give, 1, 1)
        self.same([spread.is_shut, spread.tally()], [True, (2, 2)])
        with spread:
            spread.shut()
        self.same(spread.tally(), (3, 3))

    def test_with_and_an_error(self):
        spread = Spread(NET, HOLDERS)
        with self.assertRaises(InvalidEvent) as caught:
            with spread as same:
                same.give(0, 0)
                same.give(0, 1)
        self.same([caught.exception.event, caught.exception.reason], [('give', 0, 1), 'wire'])
        self.same([spread.is_shut, list(spread), spread.tally()], [True, [('give', 0, 0)], (2, 2)])
        other = Spread(NET, HOLDERS)
        with self.assertRaises(KeyError):
            with other:
                raise KeyError
        self.same([other.is_shut, other.tally()], [True, (0, 0)])
        self.same(other == spread, False)


class DoAllTest(Case):

    GOOD = (('give', 0, 0), ('give', 1, 1), ('lay', 1, 'b'))

    def test_all_are_made(self):
        for named in ({}, {'keep': False}, {'keep': True}):
            spread = Spread(NET, HOLDERS)
            self.same(spread.do_all(*self.GOOD, **named), 3)
            self.same(told(spread), wanted(Slow(NET, HOLDERS, self.GOOD)))
            self.same(spread.do_all(**named), 0)
            self.same([spread.do_all(('lose', 3), **named), spread.tally()], [1, (3, 3)])

    def test_one_is_refused(self):
        for bad, reason in ((None, 'shape'), (('give', 0, 0), 'wire'), (('give', 2, 2), 'piece'), (('give', 2, 1), 'has'),
                            (('lay', 0, 'zz'), 'house')):
            for more in ((), (None,), (('lose', 2),)):
                for named in ({}, {'keep': False}, {'keep': True}):
                    spread = Spread(NET, HOLDERS)
                    spread.lose(3)
                    self.refuses(bad, reason, spread.do_all, *self.GOOD, bad, *more, **named)
                    kept = self.GOOD if named.get('keep') else ()
                    self.same(told(spread), wanted(Slow(NET, HOLDERS, (('lose', 3), *kept))))
                    self.same(spread.tally(), (2, 2))

    def test_keep(self):
        values = [value for value in ANYTHING if type(value) is not bool]
        for value in values:
            for events in ((), self.GOOD, (None,)):
                for shut in (False, True):
                    spread = Spread(NET, HOLDERS)
                    if shut:
                        spread.shut()
                    self.unusable('keep', value, spread.do_all, *events, keep=value)
                    self.same([len(spread), spread.tally()], [0, (1 + shut, 1 + shut)])
        self.first_error(lambda *args, **named: Spread(NET, HOLDERS).do_all(keep=named.get('keep', *args)),
                         {'keep': True}, {'keep': own_faults('keep', None, 1, 0, '', 'True')})

    def test_none_is_made_when_shut(self):
        spread = spread_after(('give', 0, 0))
        spread.shut()
        for keep in (False, True):
            self.refuses(('lose', 1), 'closed', spread.do_all, ('lose', 1), None, keep=keep)
            self.refuses(None, 'shape', spread.do_all, None, ('lose', 1), keep=keep)


class TallyTest(Case):

    def test_what_counts(self):
        spread = Spread(NET, HOLDERS)
        calls = [
            (spread.give, (0, 0)), (spread.lose, (2,)), (spread.lay, (1, 'c')), (spread.apply, (('give', 1, 0),)),
            (spread, (('give', 3, 1),)), (spread.undo, ()), (spread.do_all, ()), (spread.do_all, (('lose', 3),)),
            (spread.shut, ()), (spread.shut, ()),
        ]
        for k, (call, args) in enumerate(calls):
            self.same(spread.tally(), (k, k))
            call(*args)
        self.same(spread.tally(), (10, 10))

    def test_what_counts_also_with_an_error(self):
        spread = Spread(NET, HOLDERS)
        calls = [
            (spread.give, (9, 0)), (spread.give, (None, 0)), (spread.lose, (9,)), (spread.lay, (1, 'a')),
            (spread.apply, (None,)), (spread, (('lose', 9),)), (spread.undo, ()), (spread.do_all, (None,)),
            (spread.do_all, (('give', 0, 0), ('give', 0, 0))),
        ]
        for k, (call, args) in enumerate(calls):
            self.same(spread.tally(), (k, k))
            with self.assertRaises((InvalidEvent, NothingToUndo)):
                call(*args)
        self.unusable('keep', 1, spread.do_all, keep=1)
        self.same(spread.tally(), (10, 10))
        spread.shut()
        self.refuses(('undo',), 'closed', spread.undo)
        self.same(spread.tally(), (12, 12))

    def test_the_events_of_do_all_do_not_count(self):
        self.same(full_spread().tally(), (1, 1))
        spread = Spread(WIDE, WIDE_HOLDERS)
        self.refuses(ONE_MORE, 'full', spread.do_all, *FULL, ONE_MORE, keep=True)
        self.same(spread.tally(), (1, 1))

    def test_what_does_not_count(self):
        spread = spread_after(('give', 0, 0))
        told(spread)
        for call in (spread.tally, spread.log, spread.state, spread.short_now, spread.left_case, spread.tried):
            call()
        spread.barred(('lose', 1))
        spread.barred(None)
        spread.tried(('lose', 1), ('lose', 2))
        self.refuses(None, 'shape', spread.tried, ('lose', 1), None)
        self.same([('lose', 1) in spread, spread == Spread(NET, HOLDERS), len(spread)], [False, False, 1])
        with spread:
            pass
        self.same(spread.tally(), (1, 1))


class TriedTest(Case):

    def test_tried(self):
        spread = spread_after(('give', 0, 0))
        before = told(spread)
        self.same(spread.tried(), ((('a', 'b'), ('a',)), (), 'going'))
        self.same(spread.tried(('give', 1, 0)), ((('a', 'b', 'c'), ('a',)), (), 'short'))
        self.same(spread.tried(('lose', 1), ('lose', 3)), ((('a', 'b'), ('a',)), (1, 3), 'short'))
        self.same(spread.tried(('lay', 1, 'b'), ('give', 1, 1), ('give', 2, 0)), (HOLDERS_ALL, (), 'all'))
        self.refuses(('lose', 0), 'wire', spread.tried, ('lose', 1), ('lose', 0), None)
        self.refuses(('lose', 1), 'wire', spread.tried, ('lose', 1), ('lose', 1))
        self.refuses(None, 'shape', spread.tried, None)
        self.same(told(spread), before)
        self.same(spread.tally(), (1, 1))

    def test_shut(self):
        spread = spread_after(('give', 0, 0))
        spread.shut()
        self.same(spread.tried(), ((('a', 'b'), ('a',)), (), 'going'))
        self.refuses(('lose', 1), 'closed', spread.tried, ('lose', 1))


class EqualTest(Case):

    def test_equal(self):
        events = (('give', 0, 0), ('give', 1, 1))
        one = spread_after(*events)
        other = Spread(NET, HOLDERS)
        for event in (*events, ('lose', 2)):
            other.apply(event)
        self.same([one == other, one != other, one == one], [False, True, True])
        other.undo()
        self.same([one == other, other == one, one != other], [True, True, False])
        one.shut()
        self.same([one == other, other == one], [False, False])
        other.shut()
        self.same(one == other, True)

    def test_classes(self):
        class Other(Spread):
            pass
        spreads = [spread_after(('give', 0, 0), shape=shape) for shape in (Spread, Guarded, Other)]
        for one in spreads:
            for other in spreads:
                self.same(one == other, True)
        spreads[1].shut()
        self.same([spreads[0] == spreads[1], spreads[1] == spreads[2]], [False, False])
        spreads[0].shut()
        self.same([spreads[0] == spreads[1], spreads[1] == spreads[0]], [True, True])

    def test_unequal(self):
        one = spread_after(('lose', 0), ('lose', 1))
        more = (NET[0], (*NET[1], ('a', 'b')))
        others = [
            spread_after(('lose', 1), ('lose', 0)), spread_after(('lose', 0)), Spread(NET, HOLDERS),
            spread_after(('lose', 0), ('lose', 1), net=more), spread_after(('lose', 0), ('lose', 1), holders=(('a',),)),
            one.log(), list(one), one.left_case(), Net.of(NET), Course(NET, HOLDERS), *ANYTHING,
        ]
        for other in others:
            self.same([one == other, one != other], [False, True])
        # What is laid at once is no holder at the beginning.
        laid = Spread(NET, (('a',), ('a', 'b')))
        self.same([laid.holders, laid == spread_after(('lay', 1, 'b'))], [(('a',), ('a', 'b')), False])


class EventsTest(Case):

    def test_in(self):
        events = (('give', 0, 0), ('lose', 1), ('lay', 1, 'c'))
        spread = spread_after(*events)
        for value in (*ANYTHING, *NO_EVENTS, *all_events(NET, HOLDERS), spread):
            self.same(value in spread, any(repr(value) == repr(event) for event in events))
        for value in (('give', False, 0), ('give', 0, False), ('lose', True), ('lay', True, 'c'), ['lose', 1], 'lose'):
            self.same(value in spread, False)
        spread.undo()
        self.same([('lay', 1, 'c') in spread, ('lose', 1) in spread], [False, True])
        spread.shut()
        self.same(('lose', 1) in spread, True)

    def test_iterated_twice_and_within_itself(self):
        events = [('give', 0, 0), ('lose', 1), ('lay', 1, 'c')]
        spread = spread_after(*events)
        self.same([(one, two) for one in spread for two in spread], [(one, two) for one in events for two in events])
        left, right = iter(spread), iter(spread)
        self.same([next(left), next(left), next(right), next(left), next(right)], [*events[:2], events[0], events[2], events[1]])
        self.same([len(spread), list(spread)], [3, events])

    def test_log_is_of_the_beginning(self):
        spread = spread_after(('lay', 1, 'c'), ('lose', 0))
        self.same(spread.log(), (('spread', NET, HOLDERS), ('lay', 1, 'c'), ('lose', 0)))
        self.same(spread.holders, (('a',), ('a', 'c')))


class KeptTest(Case):

    def test_properties_cannot_be_set(self):
        spread = spread_after(('give', 0, 0))
        before = told(spread)
        for name in PROPERTIES:
            self.assertIsInstance(vars(Spread)[name], property)
            with self.assertRaises(AttributeError):
                setattr(spread, name, ())
        self.same(told(spread), before)

    def test_what_is_returned_is_kept_by_nobody(self):
        spread = spread_after(('give', 0, 0))
        list(spread).append(('lose', 1))
        log, case = spread.log(), spread.left_case()
        spread.lose(1)
        self.same(log, (('spread', NET, HOLDERS), ('give', 0, 0)))
        self.same(case, (NET, HOLDERS, (0, -1, -1, -1)))

    def test_spreads_do_not_share(self):
        one, other = Spread(NET, HOLDERS), Spread(NET, HOLDERS)
        one.give(0, 0)
        one.shut()
        self.same(told(other), wanted(Slow(NET, HOLDERS)))
        self.same(other.tally(), (0, 0))

    def test_a_call_that_raises_changes_nothing(self):
        spread = spread_after(('give', 0, 0))
        before = told(spread)
        for call, args in ((spread.give, (0, 0)), (spread.lose, (0,)), (spread.lay, (0, 'a')), (spread.apply, ([],)),
                           (spread.do_all, (('lose', 1), None)), (spread.tried, (('lose', 1), None))):
            with self.assertRaises(InvalidEvent):
                call(*args)
            self.same(told(spread), before)
        with self.assertRaises(NotUsable):
            spread.do_all(('lose', 1), keep=None)
        self.same(told(spread), before)


class RowsTest(Rows, Case):

    shape, guarded = Spread, False


if __name__ == '__main__':
    unittest.main()
