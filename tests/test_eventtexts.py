"""[70]: events and logs as lines."""

import unittest

from allpieces.eventtexts import event_line, log_lines
from allpieces.holderchecker import lets_holders
from allpieces.nettexts import holders_words, net_text
from tests.checks import Case
from tests.samples import ANYTHING, APART, HOLDERS, MUCH, NET, ONE_HOUSE
from tests.spreading import FULL, is_event, starts

HEAD = ('spread', NET, HOLDERS)
LOG = (HEAD, ('give', 0, 0), ('lay', 1, 'c'))


class EventLineTest(Case):

    def test_events(self):
        self.both_ways('lose 2', event_line, event=('lose', 2))
        self.both_ways('give 0 12', event_line, event=('give', 0, 12))
        self.both_ways('lay 0 lay', event_line, event=('lay', 0, 'lay'))
        self.same(event_line(('give', MUCH, 10 ** 59)), 'give ' + '9' * 60 + ' 1' + '0' * 59)

    def test_what_is_no_event(self):
        for value in (*ANYTHING, ('give', 0), ('give', 0, -1), ('give', 0, True), ('lose', 0, 0), ('lose', -1),
                      ['lose', 0], ('lay', 'c', 0), ('lay', 0, 'C'), ('undo',), 'lose 0', HEAD, LOG):
            self.assertFalse(is_event(value))
            self.unusable('event', -1, event_line, value)
        self.unusable('event', -1, event_line, event=None)


class LogLinesTest(Case):

    def test_examples(self):
        lines = ['spread 5', 'houses a b c', 'a b', 'a c', 'b c', 'c b', 'a a', 'give 0 0', 'lay 1 c']
        self.both_ways(lines, log_lines, log=LOG)
        self.same(log_lines(LOG)[-3:], ['a a', 'give 0 0', 'lay 1 c'])

    def test_no_wires_no_pieces_no_events(self):
        self.same(log_lines((('spread', ONE_HOUSE, ()),)), ['spread 1', 'houses a', '-'])
        self.same(log_lines((('spread', APART, (('a', 'c'), ('b',))),)), ['spread 1', 'houses a b c', 'a,c b'])

    def test_logs(self):
        for net, holders in starts():
            for events in ((), (('lose', 0),), FULL, FULL * 20):
                lines = log_lines((('spread', net, holders), *events))
                self.assertIs(type(lines), list)
                self.assertTrue(all(type(line) is str and '\n' not in line for line in lines))
                many = len(net[1]) + 1
                self.same(lines[0], f'spread {many}')
                self.same('\n'.join(lines[1:many + 1]), net_text(net))
                self.same(lines[many + 1], holders_words(holders))
                self.same(lines[many + 2:], [event_line(event) for event in events])

    def test_events_that_are_not_possible(self):
        self.same(log_lines((HEAD, ('give', 99, 99), ('lay', 9, 'zz')))[-2:], ['give 99 99', 'lay 9 zz'])

    def test_what_it_returns_belongs_to_the_caller(self):
        log_lines(LOG).clear()
        self.same(len(log_lines(LOG)), 9)

    def test_what_is_no_log(self):
        for value in (*ANYTHING, (), HEAD, [*LOG], LOG[1:], (*LOG, None), (*LOG, HEAD), (HEAD, ('give', 0, -1)),
                      (('spread', NET, (('d',),)),), log_lines(LOG)):
            self.unusable('log', -1, log_lines, value)
        self.unusable('log', -1, log_lines, log=None)
        self.same(lets_holders(NET, HOLDERS), 2)


if __name__ == '__main__':
    unittest.main()
