"""[73], [74]: class Desk."""

import unittest

from allpieces.desk import Desk
from allpieces.errors import InvalidEvent, InvalidRow, NothingToUndo
from allpieces.eventtexts import event_line, log_lines
from allpieces.nettexts import giving_words, holders_words
from allpieces.spreads import Spread
from tests.checks import Case
from tests.samples import ANYTHING, APART, HOLDERS, NET, ONE_HOUSE, SIDES, TWINS, Dice
from tests.spreading import FULL, ONE_MORE, WIDE, WIDE_HOLDERS, all_events, starts

START = 'spread 5\nhouses a b c\na b\na c\nb c\nc b\na a'
QUESTIONS = ('holders', 'having', 'giving', 'lost', 'short', 'state', 'events', 'log')
ROWS = (
    'undo', 'shut', *QUESTIONS, 'give 0 0', 'lose 0', 'lay 0 b', 'bars give 0 0', 'bars lose 0', 'bars lay 0 b',
)
NO_ROWS = (
    '', ' ', '\n', 'Undo', 'undo ', ' undo', 'undo\n', 'undo 0', 'shut shut', 'state ', 'states', 'log\n', 'give', 'give 0',
    'give 0 0 ', 'give 0 0\n', 'give 0 0\ngive 1 1', 'give 0 a', 'lose', 'lose a', 'lose -1', 'lose 00', 'lay 0', 'lay c 0',
    'lay 0 C', 'bars', 'bars ', 'bars undo', 'bars shut', 'bars give 0', 'bars give 0 0 0', 'bars  give 0 0',
    'bars bars lose 0', 'Bars lose 0', 'bars lose 0\n', 'bars lose a', 'spread', 'spread 1', 'spread 1\nhouses a', 'houses a',
    'spread 1\nhouses a\nb', 'spread 1\nhouses a\n', 'spread 1\nhouses a\na\n', 'spread 2\nhouses a\na',
    'spread 1\nhouses a\na\nlose 0', '\nspread 1\nhouses a\na', 'spread 0\nhouses a\na', 'spread 1\nhouses a b\na c',
    START + '\n', START + '\ngive 0 0', START + '\nlose', START.replace('\n', ' '), 'bars ' + START, 'having lost', '0', '-',
    'give ' + '1' * 61 + ' 0', 'ok', 'going', 'counts', 'tally', 'net', 'left_case',
)


def desk_with(net=NET, holders=HOLDERS, *events):
    """Return a desk with a spread after these events."""
    desk = Desk()
    desk.say('\n'.join(log_lines((('spread', net, holders),))))
    for event in events:
        desk.say(event_line(event))
    return desk


def listed(parts):
    """Return several things with single spaces between."""
    return ' '.join(map(str, parts)) or '-'


def answers(spread):
    """Return the answers that a desk has to give to the questions."""
    short = spread.short_now()
    return [
        holders_words(spread.holders), holders_words(spread.having), giving_words(spread.giving), listed(spread.lost),
        listed(short or ()), spread.state(), str(len(spread)), ' / '.join(map(event_line, spread)) or '-',
    ]


class DeskTest(Case):

    def no_row(self, desk, row):
        """Check that a row is none."""
        self.assertIs(self.refused(InvalidRow, {'row': row}, desk.say, row).row, row)

    def test_examples(self):
        desk = Desk()
        found = [desk.say(row) for row in (START, 'give 0 0', 'bars give 0 1', 'lose 2', 'short', 'having')]
        self.same(found, ['ok', 'going', 'wire', 'short', 'c', 'a,b a'])
        found = [desk.say(row) for row in ('log', 'undo', 'lost', 'giving')]
        self.same(found, ['give 0 0 / lose 2', 'lose 2', '-', '0 - - -'])
        self.same(desk.counts(), (10, 10))

    def test_by_name(self):
        desk = Desk()
        self.same([desk.say(row=START), desk.say(row='lose 1'), desk.say(row='events')], ['ok', 'short', '1'])
        self.refused(InvalidRow, {'row': 'x'}, desk.say, row='x')

    def test_without_a_spread(self):
        desk = Desk()
        for row in (*ROWS, *NO_ROWS, *ANYTHING):
            self.no_row(desk, row)
        many = len(ROWS) + len(NO_ROWS) + len(ANYTHING)
        self.same(desk.counts(), (many, many))
        self.same([desk.say(START), desk.say('state')], ['ok', 'going'])

    def test_other_rows(self):
        desk = desk_with(NET, HOLDERS, ('give', 0, 0))
        before = [desk.say(row) for row in QUESTIONS]
        for row in (*NO_ROWS, *ANYTHING, START.split('\n'), START.encode(), ('give', 1, 1)):
            self.no_row(desk, row)
        self.same([desk.say(row) for row in QUESTIONS], before)

    def test_a_new_spread_while_it_has_one(self):
        desk = desk_with(NET, HOLDERS, ('give', 0, 0))
        self.same([desk.say('shut'), desk.say(START), desk.say('events'), desk.say('state')], ['ok', 'ok', '0', 'going'])
        self.same([desk.say('give 0 1'), desk.say('spread 1\nhouses a\n-'), desk.say('giving')], ['going', 'ok', 'none'])
        self.no_row(desk, 'spread 1\nhouses a\nb')
        self.same(desk.say('state'), 'all')

    def test_two_desks(self):
        one, other = desk_with(), desk_with()
        one.say('give 0 0')
        self.same([one.say('events'), other.say('events'), one.counts(), other.counts()], ['1', '0', (3, 3), (2, 2)])

    def test_no_wires_no_pieces_no_events(self):
        desk = desk_with(ONE_HOUSE, ())
        self.same([desk.say(row) for row in QUESTIONS], ['-', '-', 'none', '-', '-', 'all', '0', '-'])
        desk = desk_with(APART, (('a',), ('b', 'c')))
        self.assertIn(desk.say('short'), ('a', 'b', 'c', 'b c'))
        self.same([desk.say(row) for row in QUESTIONS if row != 'short'], ['a b,c', 'a b,c', 'none', '-', 'short', '0', '-'])
        desk = desk_with(NET, ())
        self.same([desk.say(row) for row in QUESTIONS], ['-', '-', '- - - -', '-', '-', 'all', '0', '-'])

    def test_events(self):
        desk = desk_with()
        rows = ('give 0 0', 'lay 1 c', 'lose 2', 'lose 1', 'give 3 1')
        self.same([desk.say(row) for row in rows], ['going', 'going', 'going', 'short', 'short'])
        wanted = ['a a,c', 'a,b a,b,c', '0 - - 1', '1 2', 'c', 'short', '5', ' / '.join(rows)]
        self.same([desk.say(row) for row in QUESTIONS], wanted)
        self.same([desk.say('undo') for _ in rows], [*rows[::-1]])
        self.same(desk.say('log'), '-')

    def test_all(self):
        desk = desk_with()
        self.same([desk.say(row) for row in ('give 0 0', 'give 1 1', 'give 2 0', 'give 3 1')], ['going'] * 3 + ['all'])
        self.same([desk.say('short'), desk.say('having')], ['-', 'a,b,c a,b,c'])

    def test_several_houses(self):
        desk = desk_with(TWINS, SIDES)
        self.assertIn(desk.say('short'), ('a b', 'c d'))

    def test_bars(self):
        desk = desk_with(NET, HOLDERS, ('give', 0, 0))
        rows = ('give 0 1', 'give 1 1', 'give 1 2', 'give 3 0', 'lose 9', 'lose 1', 'lay 0 b', 'lay 2 b', 'lay 0 c')
        wanted = ['wire', '-', 'piece', 'piece', 'wire', '-', 'house', 'piece', '-']
        self.same([desk.say('bars ' + row) for row in rows], wanted)
        desk.say('give 1 0')
        self.same([desk.say('bars give 2 0'), desk.say('events')], ['has', '2'])
        desk.say('shut')
        self.same([desk.say('bars ' + row) for row in rows], ['closed'] * 9)

    def test_full(self):
        desk = desk_with(WIDE, WIDE_HOLDERS, *FULL)
        self.same([desk.say('events'), desk.say('bars ' + event_line(ONE_MORE))], ['24', 'full'])
        self.refuses(ONE_MORE, 'full', desk.say, event_line(ONE_MORE))
        self.same(desk.say('lost'), ' '.join(map(str, range(16))))

    def test_the_errors_of_the_spread(self):
        desk = desk_with()
        self.refused(NothingToUndo, {'steps': 0}, desk.say, 'undo')
        self.refuses(('give', 4, 0), 'wire', desk.say, 'give 4 0')
        self.refuses(('give', 3, 0), 'piece', desk.say, 'give 3 0')
        self.refuses(('lay', 0, 'd'), 'house', desk.say, 'lay 0 d')
        self.same(desk.say('events'), '0')
        self.same([desk.say('shut'), desk.say('shut')], ['ok', 'ok'])
        self.refuses(('undo',), 'closed', desk.say, 'undo')
        self.refuses(('lose', 0), 'closed', desk.say, 'lose 0')
        self.same([desk.say(row) for row in QUESTIONS], ['a a', 'a a', '- - - -', '-', '-', 'going', '0', '-'])

    def test_it_is_no_guarded_spread(self):
        desk = desk_with(NET, HOLDERS, ('give', 0, 0))
        self.same([desk.say('bars give 1 0'), desk.say('give 1 0'), desk.say('short')], ['-', 'short', 'b c'])

    def test_counts(self):
        desk = Desk()
        self.same(desk.counts(), (0, 0))
        rows = [(None, InvalidRow), ('undo', InvalidRow), (START, None), ('undo', NothingToUndo), ('x', InvalidRow),
                ('give 0 0', None), ('give 0 0', InvalidEvent), ('shut', None), ('state', None), ('undo', InvalidEvent)]
        for k, (row, error) in enumerate(rows, start=1):
            if error is None:
                desk.say(row)
            else:
                with self.assertRaises(error):
                    desk.say(row)
            self.same(desk.counts(), (k, k))
        self.same(desk.counts(), (10, 10))

    def test_rows_beside_a_spread(self):
        dice = Dice(37)
        for net, holders in starts():
            desk, spread = desk_with(net, holders), Spread(net, holders)
            events = all_events(net, holders)
            for turn in range(25):
                event = events[dice.throw(len(events))]
                reason = spread.barred(event)
                self.same(desk.say('bars ' + event_line(event)), reason or '-')
                if reason is None:
                    self.same(desk.say(event_line(event)), spread.apply(event))
                else:
                    self.refuses(event, reason, desk.say, event_line(event))
                if turn % 9 == 8 and len(spread):
                    self.same(desk.say('undo'), event_line(spread.undo()))
                self.same([desk.say(row) for row in QUESTIONS], answers(spread))


if __name__ == '__main__':
    unittest.main()
