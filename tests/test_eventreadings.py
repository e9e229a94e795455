"""[71], and what [72] says of what is read: events and logs read from lines."""

import unittest
from itertools import product

from allpieces.errors import InvalidText
from allpieces.eventreadings import read_event, read_log
from allpieces.eventtexts import event_line, log_lines
from allpieces.logkinds import is_log
from tests.checks import Case
from tests.samples import ANYTHING, APART, HOLDERS, MUCH, NET, ONE_HOUSE
from tests.spreading import FULL, all_events, starts

HEAD = ('spread', NET, HOLDERS)
LOG = (HEAD, ('give', 0, 0), ('lay', 1, 'c'))
LINES = ['spread 5', 'houses a b c', 'a b', 'a c', 'b c', 'c b', 'a a', 'give 0 0', 'lay 1 c']
EVENTS = (
    ('', 0), (' ', 0), ('give', 1), ('give ', 1), (' give 0 0', 0), ('give 0', 2), ('give 0 ', 2), ('give 0 0 ', 3),
    ('give 0 0 0', 3), ('give  0 0', 1), ('give 0  0', 2), ('give a 0', 1), ('give 0 a', 2), ('give 00 0', 1),
    ('give 0 01', 2), ('give -1 0', 1), ('give 0 -1', 2), ('give +1 0', 1), ('give 1_0 0', 1), ('give a', 1),
    ('give 0 0 0 0', 3), ('give a b c d', 1), ('give\t0 0', 0), ('Give 0 0', 0), ('gives 0 0', 0),
    ('lose', 1), ('lose ', 1), ('lose 0 ', 2), ('lose 0 0', 2), ('lose a', 1), ('lose -', 1), ('lose a b', 1),
    ('lay', 1), ('lay 0', 2), ('lay 0 ', 2), ('lay 0 c ', 3), ('lay 0 c c', 3), ('lay c 0', 1), ('lay 0 C', 2),
    ('lay 0 abcdefghi', 2), ('lay 0 a,b', 2), ('lay 0 0', 2), ('lay -1 c', 1), ('lay a', 1), ('undo', 0), ('shut', 0),
    ('spread 1', 0), ('houses a', 0), ('-', 0), ('0', 0), ('bars lose 0', 0),
    ('give ' + '1' * 61 + ' 0', 1), ('give 0 ' + '1' * 61, 2), ('lose ' + '0' * 2, 1), ('lose ' + '9' * 61, 1),
)


class ReadEventTest(Case):

    def test_events(self):
        self.both_ways(('lay', 0, 'lay'), read_event, line='lay 0 lay')
        self.both_ways(('give', 0, 12), read_event, line='give 0 12')
        self.both_ways(('lose', 2), read_event, line='lose 2')
        self.same(read_event('give ' + '9' * 60 + ' 0'), ('give', MUCH, 0))
        self.same(read_event('lay 10 abcdefgh'), ('lay', 10, 'abcdefgh'))

    def test_lines_that_are_not_possible(self):
        for line, field in EVENTS:
            self.unreadable(0, field, read_event, line)
            self.refused(InvalidText, {'line': 0, 'field': field}, read_event, line=line)

    def test_a_newline_belongs_to_its_word(self):
        for line, field in (('\n', 0), ('lose 0\n', 1), ('\nlose 0', 0), ('lose\n0', 0), ('give 0 0\n', 2),
                            ('give 0\n0', 1), ('lay 0 c\n', 2), ('lay 0 c\nlose 0', 2), ('lose 0\nlose 1', 1),
                            ('lose 0 \n', 2)):
            self.unreadable(0, field, read_event, line)

    def test_other_values(self):
        for value in ANYTHING:
            if type(value) is str:
                self.unreadable(0, 0, read_event, value)
            else:
                self.unusable('line', -1, read_event, value)
        self.unusable('line', -1, read_event, line=('lose', 0))

    def test_read_of_what_was_written(self):
        for event in (*all_events(NET, HOLDERS), *FULL, ('give', MUCH, MUCH), ('lose', 10 ** 59), ('lay', 0, 'give')):
            self.same(read_event(event_line(event)), event)

    def test_written_of_what_was_read(self):
        read = 0
        words = ('give', 'lose', 'lay', '0', '1', '10', '01', '-1', 'a', 'ab', 'A', '', '\n')
        for many in (1, 2, 3, 4):
            for row in product(words, repeat=many):
                try:
                    event = read_event(' '.join(row))
                except InvalidText as error:
                    self.same(error.line, 0)
                    self.assertLessEqual(error.field, many)
                    continue
                read += 1
                self.same(event_line(event), ' '.join(row))
        # Two numbers, one number, a number and a name, which can be a word of an event, too.
        self.same(read, 9 + 3 + 3 * 5)


class ReadLogTest(Case):

    def test_examples(self):
        self.both_ways(LOG, read_log, lines=LINES)
        self.unreadable(3, 2, read_log, ['spread 1', 'houses a', 'a', 'give 0'])
        self.unreadable(3, 2, read_log, lines=['spread 1', 'houses a', 'a', 'give 0'])

    def test_no_wires_no_pieces_no_events(self):
        self.same(read_log(['spread 1', 'houses a', '-']), (('spread', ONE_HOUSE, ()),))
        self.same(read_log(['spread 1', 'houses a b c', 'a b', 'lose 0']), (('spread', APART, (('a',), ('b',))), ('lose', 0)))

    def test_read_of_what_was_written(self):
        for net, holders in starts():
            for events in ((), (('lose', 0),), FULL, FULL * 20):
                log = (('spread', net, holders), *events)
                self.same(read_log(log_lines(log)), log)

    def test_the_first_line(self):
        for line, field in (('', 0), (' ', 0), ('spread', 1), ('spread ', 1), (' spread 5', 0), ('spread 5 ', 2),
                            ('spread 5 5', 2), ('spread  5', 1), ('spread 0', 1), ('spread 05', 1), ('spread -1', 1),
                            ('spread a', 1), ('spread a b', 1), ('spread a 5', 1), ('spread 0 5', 1), ('spread 5 a', 2),
                            ('Spread 5', 0), ('spreads 5', 0), ('5', 0),
                            ('houses a b c', 0), ('give 0 0', 0), ('spread ' + '1' * 61, 1), ('spread 1.0', 1)):
            for rest in (LINES[1:], [], [''], ['x'] * 3):
                self.unreadable(0, field, read_log, [line, *rest])
        self.unreadable(0, 0, read_log, [])
        self.unreadable(0, 0, read_log, [''])

    def test_too_few_lines(self):
        for many in range(1, 7):
            self.unreadable(many, 0, read_log, LINES[:many])
            # This comes before the errors of the others.
            self.unreadable(many, 0, read_log, [LINES[0], *['x'] * (many - 1)])
        self.same(read_log(LINES[:7]), (HEAD,))
        for word in ('1' * 60, '6', '8'):
            lines = [f'spread {word}', *LINES[1:]]
            if int(word) > 7:
                self.unreadable(9, 0, read_log, lines)
        self.unreadable(1, 0, read_log, ['spread 1'])
        self.unreadable(2, 0, read_log, ['spread 1', 'houses a'])

    def test_the_lines_of_the_net(self):
        def refuse(line, field, at, text):
            self.unreadable(line, field, read_log, [*LINES[:at], text, *LINES[at + 1:]])

        for text, field in (('', 0), ('house a b c', 0), ('houses', 1), ('houses ', 1), ('houses a b b', 3),
                            ('houses b a c', 2), ('houses a b c ', 4), ('houses a  b', 2), ('houses A', 1)):
            refuse(1, field, 1, text)
        refuse(3, 1, 1, 'houses a b')
        refuse(2, 0, 1, 'houses z')
        for at in range(2, 6):
            for text, field in (('', 0), ('d a', 0), ('a', 1), ('a ', 1), ('a a', 1), ('a d', 1), ('a b ', 2), ('a b c', 2),
                                ('give 0 0', 0), (' a b', 0), ('a  b', 1)):
                refuse(at, field, at, text)
        # N counts these lines: with another N another line is not possible.
        self.unreadable(5, 0, read_log, ['spread 4', *LINES[1:5], 'A b', *LINES[6:]])
        self.unreadable(6, 1, read_log, ['spread 6', *LINES[1:]])
        self.unreadable(6, 0, read_log, ['spread 4', *LINES[1:]])

    def test_the_line_of_the_holders(self):
        for text, field in (('', 0), ('a ', 1), (' a', 0), ('a  a', 1), ('A', 0), ('a,a', 0), ('b,a', 0), ('a b,', 1),
                            ('a a,b,a', 1), ('- -', 1), ('- a', 1), ('a -', 1), ('-  ', 1), (',', 0), ('0', 0)):
            self.unreadable(6, field, read_log, [*LINES[:6], text, *LINES[7:]])
        self.same(read_log([*LINES[:6], '-']), (('spread', NET, ()),))
        self.same(read_log([*LINES[:6], 'none a,b'])[0][2], (('none',), ('a', 'b')))

    def test_the_lines_of_the_events(self):
        for line, field in EVENTS:
            for at in (7, 8, 9):
                self.unreadable(at, field, read_log, [*LINES[:at], line, *LINES[at:], 'x'])

    def test_the_first_line_at_fault(self):
        wrong = ['spread 5', 'houses a', 'x', 'y', 'z', 'w', '', '', 'give']
        faults = [(2, 0), (6, 0), (7, 0), (8, 1)]
        good = {2: [*LINES[1:6]], 6: ['a a'], 7: ['give 0 0']}
        lines = wrong
        for line, field in faults:
            self.unreadable(line, field, read_log, lines)
            if line in good:
                at = 1 if line == 2 else line
                lines = [*lines[:at], *good[line], *lines[at + len(good[line]):]]

    def test_nothing_else_is_checked(self):
        log = (('spread', ONE_HOUSE, (('b', 'zz'),)), ('give', 9, 9), ('lay', 7, 'zz'), ('lose', 0), ('lose', 0))
        lines = ['spread 1', 'houses a', 'b,zz', 'give 9 9', 'lay 7 zz', 'lose 0', 'lose 0']
        self.same(read_log(lines), log)
        self.same(is_log(log), False)

    def test_other_values(self):
        for value in ANYTHING:
            if type(value) is not list or not all(type(line) is str for line in value):
                self.unusable('lines', -1, read_log, value)
        for value in (tuple(LINES), '\n'.join(LINES), [*LINES, None], [None, *LINES], [*LINES[:3], 0, *LINES[3:]],
                      [*LINES[:-1], 'lay 1 c\n'], ['\n'.join(LINES)], ['spread 5\n', *LINES[1:]], ['', '\n'], [LINES]):
            self.unusable('lines', -1, read_log, value)
        self.unusable('lines', -1, read_log, lines=None)

    def test_the_list_stays(self):
        lines = list(LINES)
        self.same(read_log(lines), LOG)
        self.same(lines, LINES)

    def test_written_of_what_was_read(self):
        read = 0
        words = ['spread 1', 'spread 2', 'houses a', 'houses a b', 'a b', 'b a', '-', 'a', 'lose 0', '']
        for many in range(6):
            for lines in product(words, repeat=many):
                try:
                    log = read_log([*lines])
                except InvalidText as error:
                    self.assertTrue(0 <= error.line <= many)
                    continue
                read += 1
                if is_log(log):
                    self.same(log_lines(log), [*lines])
        self.assertGreater(read, 30)


if __name__ == '__main__':
    unittest.main()
