"""[18]: nets, holders and givings read from texts."""

import unittest
from itertools import product

from allpieces.errors import InvalidText
from allpieces.netreadings import giving_read, holders_read, net_read
from allpieces.nettexts import giving_words, holders_words, net_text
from tests.checks import Case
from tests.samples import CASES, cases


class NetReadTest(Case):

    def test_examples(self):
        wanted = (('houses', 'none'), (('none', 'houses'),))
        self.both_ways(wanted, net_read, text='houses houses none\nnone houses')
        self.unreadable(2, 1, net_read, 'houses a b\na b\na c')
        self.unreadable(2, 1, net_read, text='houses a b\na b\na c')

    def test_nets(self):
        self.same(net_read('houses a'), (('a',), ()))
        self.same(net_read('houses a b\na b\na b\nb a'), (('a', 'b'), (('a', 'b'), ('a', 'b'), ('b', 'a'))))

    def test_first_word(self):
        for text in ('', ' ', 'a b', 'house a', 'housesa', ' houses a', 'Houses a', '\n', '\nhouses a', 'houses\ta',
                     'houses,a', ' houses', '  '):
            self.unreadable(0, 0, net_read, text)

    def test_first_line(self):
        rows = [('houses', 1), ('houses\n', 1), ('houses ', 1), ('houses  a', 1), ('houses A', 1), ('houses a ', 2),
                ('houses a  b', 2), ('houses a a', 2), ('houses b a', 2), ('houses a c b', 3), ('houses a b b', 3),
                ('houses a b a', 3), ('houses abcdefghi', 1), ('houses a,b', 1), ('houses a1', 1), ('houses a b c ', 4),
                ('houses 0', 1), ('houses -', 1), ('houses b a A', 2), ('houses a A a', 2)]
        for text, field in rows:
            self.unreadable(0, field, net_read, text)
            self.unreadable(0, field, net_read, text + '\nx y')

    def test_other_lines(self):
        rows = [('', 0), (' ', 0), ('a', 1), ('a ', 1), ('c', 0), ('c d', 0), ('a c', 1), ('a a', 1), ('a  b', 1),
                (' a b', 0), ('a b ', 2), ('a b a', 2), ('a b c', 2), ('a b  ', 2), ('A b', 0), ('houses a', 0),
                ('a b\t', 1), ('a,b', 0), ('a a b', 1), ('a b a b', 2), ('c b a', 0), ('b', 1), ('b ', 1), ('-', 0)]
        for line, field in rows:
            self.unreadable(1, field, net_read, 'houses a b\n' + line)
            self.unreadable(3, field, net_read, 'houses a b\na b\nb a\n' + line + '\nx')

    def test_a_newline_at_the_end(self):
        self.unreadable(1, 0, net_read, 'houses a\n')
        self.unreadable(2, 0, net_read, 'houses a b\na b\n')
        self.unreadable(2, 0, net_read, 'houses a b\na b\n\n')

    def test_the_first_line_at_fault(self):
        self.unreadable(1, 1, net_read, 'houses a b\na\n\nc')
        self.unreadable(0, 2, net_read, 'houses a a\n\n')

    def test_other_values(self):
        for value in (None, 0, True, (), [], ['houses a'], ('houses a',), (('a',), ())):
            self.unusable('text', -1, net_read, value)

    def test_read_of_what_was_written(self):
        for net, _ in CASES:
            self.same(net_read(net_text(net)), net)

    def test_written_of_what_was_read(self):
        read = 0
        for words in product(['houses', 'a', 'b', '', '\n', ' '], repeat=5):
            for text in (' '.join(words), ''.join(words), ' '.join(words[:4]).replace(' \n ', '\n')):
                try:
                    net = net_read(text)
                except InvalidText:
                    continue
                read += 1
                self.same(net_text(net), text)
        self.assertGreater(read, 5)


class HoldersReadTest(Case):

    def test_example(self):
        self.both_ways((('none',),), holders_read, text='none')

    def test_holders(self):
        self.same(holders_read('-'), ())
        self.same(holders_read('a,b c'), (('a', 'b'), ('c',)))
        self.same(holders_read('a a a'), (('a',), ('a',), ('a',)))
        self.same(holders_read('abcdefgh,z'), (('abcdefgh', 'z'),))

    def test_errors(self):
        rows = [('', 0), (' ', 0), ('- ', 1), ('- -', 1), ('- a', 1), ('-  ', 1), ('a -', 1), ('a ', 1), (' a', 0),
                ('a  b', 1), ('a,', 0), (',a', 0), ('a,,b', 0), ('b,a', 0), ('a,a', 0), ('a b,a', 1), ('A', 0), ('0', 0),
                ('a\n', 0), ('\n', 0), ('a\nb', 0), ('a b\n', 1), ('-\n', 0), ('abcdefghi', 0), ('a b c, d', 2), ('--', 0),
                (',', 0), ('a;b', 0), ('a b -a', 2)]
        for text, field in rows:
            self.unreadable(0, field, holders_read, text)
        self.unreadable(0, 0, holders_read, text='')

    def test_other_values(self):
        for value in (None, 0, True, (), [], ['a'], ('a',), (('a',),)):
            self.unusable('text', -1, holders_read, value)

    def test_read_of_what_was_written(self):
        for _, holders in CASES:
            self.same(holders_read(holders_words(holders)), holders)

    def test_written_of_what_was_read(self):
        read = 0
        for letters in product('ab, -\n', repeat=5):
            text = ''.join(letters).replace('-----', '-')
            try:
                holders = holders_read(text)
            except InvalidText:
                continue
            read += 1
            self.same(holders_words(holders), text)
        self.assertGreater(read, 20)


class GivingReadTest(Case):

    def test_examples(self):
        self.both_ways((-1, 12), giving_read, text='- 12')
        self.same(giving_read('-'), (-1,))

    def test_givings(self):
        self.same(giving_read('none'), ())
        self.same(giving_read('0'), (0,))
        self.same(giving_read('0 0 - 10 -'), (0, 0, -1, 10, -1))

    def test_sixty_digits(self):
        for digits in ('9' * 60, '1' + '0' * 59, '123456789012345678901234567890' * 2):
            self.same(giving_read(digits), (int(digits),))
            self.same(giving_read('- ' + digits + ' 0'), (-1, int(digits), 0))
            self.same(giving_words(giving_read(digits)), digits)

    def test_sixty_one_digits(self):
        for digits in ('9' * 61, '1' + '0' * 60, '1' * 4000):
            self.unreadable(0, 0, giving_read, digits)
            self.unreadable(0, 2, giving_read, '- 0 ' + digits)
        self.unreadable(0, 0, giving_read, giving_words((10 ** 60,)))

    def test_errors(self):
        rows = [('', 0), (' ', 0), ('none ', 1), ('none none', 1), ('none 0', 1), ('none -', 1), ('0 none', 1), ('0 ', 1),
                (' 0', 0), ('0  0', 1), ('00', 0), ('01', 0), ('0 007', 1), ('-1', 0), ('+1', 0), ('--', 0), ('- -0', 1),
                ('1_000', 0), ('1.0', 0), ('1,2', 0), ('a', 0), ('0\n', 0), ('\n', 0), ('0 -\n', 1), ('none\n', 0),
                ('0\n0', 0), ('0x1', 0), ('1e3', 0), ('- - a -', 2), ('None', 0), ('0' * 60, 0), ('0' + '1' * 59, 0)]
        for text, field in rows:
            self.unreadable(0, field, giving_read, text)
        self.unreadable(0, 0, giving_read, text='')

    def test_other_values(self):
        for value in (None, 0, -1, True, (), [], ['0'], ('0',), (0,)):
            self.unusable('text', -1, giving_read, value)

    def test_read_of_what_was_written(self):
        for _, _, giving in cases():
            self.same(giving_read(giving_words(giving)), giving)
        self.same(giving_read(giving_words((10 ** 59, -1, 0))), (10 ** 59, -1, 0))

    def test_written_of_what_was_read(self):
        read = 0
        for letters in product('01- \n', repeat=5):
            text = ''.join(letters)
            try:
                giving = giving_read(text)
            except InvalidText:
                continue
            read += 1
            self.same(giving_words(giving), text)
        self.assertGreater(read, 20)


if __name__ == '__main__':
    unittest.main()
