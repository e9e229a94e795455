"""[59], as far as it speaks of is_log: events by form, and logs."""

import unittest

from allpieces.courses import Course
from allpieces.errors import InvalidPaper
from allpieces.holderchecker import lets_holders
from allpieces.logkinds import is_log
from allpieces.netchecker import lets_net
from allpieces.nets import Net
from allpieces.starts import Start
from tests.checks import Case
from tests.samples import ANYTHING, CASES, HOLDERS, MUCH, NET, ONE_HOUSE, changed
from tests.spreading import is_event

HEAD = ('spread', NET, HOLDERS)
GOOD = (HEAD, ('give', 0, 0), ('lose', 2), ('lay', 1, 'c'))


def slow_log(value):
    """Return whether a value is a log."""
    if type(value) is not tuple or not value or type(value[0]) is not tuple or len(value[0]) != 3:
        return False
    word, net, holders = value[0]
    if repr(word) != repr('spread'):
        return False
    try:
        lets_net(net)
        lets_holders(net, holders)
    except InvalidPaper:
        return False
    return all(is_event(event) for event in value[1:])


class LogTest(Case):

    def check(self, value):
        """Check is_log, and return what it says."""
        wanted = slow_log(value)
        self.both_ways(wanted, is_log, thing=value)
        return wanted

    def test_logs_without_events(self):
        for net, holders in CASES:
            self.same(is_log((('spread', net, holders),)), True)
        self.same(is_log((('spread', ONE_HOUSE, ()),)), True)
        self.same(is_log(HEAD), False)
        self.same(is_log(()), False)

    def test_logs_with_events(self):
        self.same(is_log(GOOD), True)
        self.same(is_log(GOOD + (('lose', 2),) * 5000), True)

    def test_events_that_are_not_possible(self):
        for event in (('give', 9, 0), ('give', 0, MUCH), ('give', 3, 0), ('lose', 9), ('lose', MUCH), ('lay', 9, 'c'),
                      ('lay', 0, 'z'), ('lay', 0, 'a'), ('lay', 0, 'give'), ('lay', 0, 'abcdefgh')):
            self.same(is_log((HEAD, event, event)), True)

    def test_what_is_no_event(self):
        for event in (('give', 0), ('give', 0, 0, 0), ('give', 0, -1), ('give', -1, 0), ('give', 'a', 0), ('give', 0, 'a'),
                      ('give', True, 0), ('give', 0, False), ['give', 0, 0], ('Give', 0, 0), ('give',), ('lose',),
                      ('lose', -1), ('lose', True), ('lose', 'a'), ('lose', 0, 0), ('lose', None), ('lay', 0),
                      ('lay', 'c', 0), ('lay', 0, 0), ('lay', 0, 'C'), ('lay', 0, ''), ('lay', 0, 'abcdefghi'),
                      ('lay', True, 'c'), ('lay', 0, ('c',)), ('lay', -1, 'c'), ('lay', 0, 'c', 0), ('undo',), HEAD, ()):
            self.same(is_log((HEAD, event)), False)
            self.same(is_log((*GOOD, event)), False)
            self.same(is_log((HEAD, event, *GOOD[1:])), False)

    def test_the_first_element(self):
        for head in (('spread', NET), ('spread', NET, HOLDERS, ()), ('spread', HOLDERS, NET), ['spread', NET, HOLDERS],
                     ('log', NET, HOLDERS), (NET, HOLDERS, 'spread'), ('spread', NET, (('d',),)), ('spread', NET, ((),)),
                     ('spread', Net.of(NET), HOLDERS), ('spread', NET, Start.of(NET, HOLDERS)), ('spread', NET, [('a',)]),
                     ('spread', (('a', 'b', 'c'), (('a', 'a'),)), HOLDERS), ('give', 0, 0)):
            self.same(is_log((head,)), False)
            self.same(is_log((head, ('lose', 0))), False)
        self.same(is_log((HEAD, HEAD)), False)
        self.same(is_log(GOOD[1:]), False)

    def test_any_value(self):
        for value in (*ANYTHING, Net.of(NET), Start.of(NET, HOLDERS), Course(NET, HOLDERS), [*GOOD]):
            self.check(value)
            self.check((value,))
            self.check((HEAD, value))
            for row in ((value, NET, HOLDERS), ('spread', value, HOLDERS), ('spread', NET, value)):
                self.check((row,))
            for event in ((value,), (value, 0), (value, 0, 0), (value, 0, 'c'), ('give', value, 0), ('give', 0, value),
                          ('lose', value), ('lay', value, 'c'), ('lay', 0, value)):
                self.check((HEAD, event))

    def test_one_thing_changed(self):
        said = [self.check(value) for value in changed(GOOD)]
        self.assertGreater(said.count(True), 20)
        self.assertGreater(said.count(False), 200)


if __name__ == '__main__':
    unittest.main()
