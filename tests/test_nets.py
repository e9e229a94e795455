"""[19]: class Net."""

import unittest

from allpieces.nets import Net
from allpieces.nettexts import net_text
from allpieces.starts import Start
from tests.checks import BAD_WIRE, Case
from tests.samples import ANYTHING, APART, CASES, EQUAL, NET, ONE_HOUSE


class NetTest(Case):

    def test_example(self):
        one = Net(('a', 'b'), ('a', 'b'))
        self.same(one.bearing, ('a', 'b'))
        self.same(one[0], ('a', 'b'))
        self.same('b' in one, True)
        self.same(list(one + ('b', 'a')), [('a', 'b'), ('b', 'a')])
        self.same(len(one - 0), 0)
        self.same(str(Net.ring('b', 'a')), 'houses a b\nb a\na b')

    def test_properties(self):
        for net, _ in CASES:
            one = Net(net[0], *net[1])
            self.same(one.net, net)
            self.same(one.bearing, net[0])
        self.same(Net(houses=('a',)).net, ONE_HOUSE)

    def test_errors_of_the_net(self):
        for houses in ((), [], 'a', None, ('b', 'a'), ['a'], 0):
            self.invalid('houses', -1, Net, houses)
            self.invalid('houses', -1, Net, houses, None)
        self.invalid('wire', 0, Net, ('a', 'b'), None)
        self.invalid('wire', 1, Net, ('a', 'b'), ('a', 'b'), ('a', 'c'), None)
        for wire in ANYTHING:
            if wire not in (('a', 'b'), ('b', 'a')):
                self.invalid('wire', 1, Net, ('a', 'b'), ('b', 'a'), wire)

    def test_it_never_changes(self):
        one = Net.of(NET)
        for name in ('net', 'bearing'):
            with self.assertRaises(AttributeError):
                setattr(one, name, ONE_HOUSE)
        one + ('b', 'a')
        one - 0
        self.unusable('wire', 9, lambda: one - 9)
        self.unusable('wire', 9, lambda: one + 9)
        self.same(one.net, NET)
        self.same(list(one), list(NET[1]))
        with self.assertRaises(TypeError):
            one[0] = ('b', 'a')

    def test_wires_by_number(self):
        for net, _ in CASES:
            one = Net.of(net)
            self.same([one[wire] for wire in range(len(net[1]))], list(net[1]))
        for wire, word, at in BAD_WIRE:
            self.unusable(word, at, lambda value: Net.of(NET)[value], wire)
        for value in ANYTHING:
            if repr(value) not in ('0', '1', '2'):
                self.unusable('wire', value, lambda value: Net.of(NET)[value], value)
        self.unusable('wire', 0, lambda value: Net.of(APART)[value], 0)

    def test_contains(self):
        one = Net.of(NET)
        for value in (*ANYTHING, 'b', 'c', 'd', ('a', 'c'), ['c']):
            self.same(value in one, repr(value) in ("'a'", "'b'", "'c'"))

    def test_length_and_iteration(self):
        for net, _ in CASES:
            one = Net.of(net)
            self.same(len(one), len(net[1]))
            self.same(list(one), list(net[1]))
            self.same(tuple(one), net[1])

    def test_equal(self):
        self.same(Net.of(NET) == Net.of(NET), True)
        self.same(Net.of(NET) != Net.of(NET), False)
        others = [net for net, _ in CASES if net != NET]
        others = [*others, (NET[0], NET[1][::-1]), (NET[0], NET[1][:3]), (('a', 'b', 'c', 'd'), NET[1])]
        for net in others:
            self.same(Net.of(NET) == Net.of(net), False)
            self.same(Net.of(NET) != Net.of(net), True)
        for value in (*ANYTHING, NET, list(NET), net_text(NET), Start(NET)):
            self.same(Net.of(NET) == value, False)
            self.same(value == Net.of(NET), False)

    def test_text(self):
        for net, _ in CASES:
            self.same(str(Net.of(net)), net_text(net))

    def test_a_wire_more(self):
        for net, _ in CASES:
            for source in net[0]:
                for target in net[0]:
                    if source != target:
                        more = Net.of(net) + (source, target)
                        self.assertIs(type(more), Net)
                        self.same(more.net, (net[0], (*net[1], (source, target))))
        wrong = [value for value in ANYTHING if value not in (('a', 'b'), ('b', 'a'))]
        for wire in [*wrong, ('a', 'd'), ('d', 'a'), ('a', 'a'), ('a', 'b', 'c'), ['a', 'b'], ('a', True)]:
            self.unusable('wire', wire, lambda value: Net.of(NET) + value, wire)
        wire = ['a', 'b']
        self.assertIs(self.unusable('wire', wire, lambda: Net.of(NET) + wire).at, wire)

    def test_a_wire_less(self):
        for net, _ in CASES:
            for wire in range(len(net[1])):
                less = Net.of(net) - wire
                self.assertIs(type(less), Net)
                self.same(less.net, (net[0], net[1][:wire] + net[1][wire + 1:]))
        for value in ANYTHING:
            if repr(value) not in ('0', '1', '2'):
                self.unusable('wire', value, lambda value: Net.of(NET) - value, value)

    def test_of(self):
        self.assertIs(type(Net.of(NET)), Net)
        self.same(Net.of(net=EQUAL).net, EQUAL)
        self.invalid('shape', -1, Net.of, [('a',), ()])
        self.invalid('shape', -1, Net.of, Net.of(NET))
        self.invalid('houses', -1, Net.of, ((), None))
        self.invalid('wires', -1, Net.of, (('a', 'b'), [('a', 'b')]))
        self.invalid('wire', 1, Net.of, (('a', 'b'), (('a', 'b'), None)))

    def test_read(self):
        one = Net.read('houses a b\nb a')
        self.assertIs(type(one), Net)
        self.same(one.net, (('a', 'b'), (('b', 'a'),)))
        self.same(Net.read(text='houses a').net, ONE_HOUSE)
        self.unreadable(1, 1, Net.read, 'houses a b\na')
        self.unreadable(0, 0, Net.read, '')
        for value in (None, 0, NET, Net.of(NET), ['houses a']):
            self.unusable('text', -1, Net.read, value)

    def test_ring(self):
        self.assertIs(type(Net.ring('a', 'b')), Net)
        self.same(Net.ring('a', 'b').net, (('a', 'b'), (('a', 'b'), ('b', 'a'))))
        wanted = (('a', 'b', 'c', 'd'), (('c', 'a'), ('a', 'd'), ('d', 'b'), ('b', 'c')))
        self.same(Net.ring('c', 'a', 'd', 'b').net, wanted)

    def test_no_ring(self):
        self.unusable('names', -1, Net.ring)
        for names in (('a',), (None,), ('a', 'a'), ('a', 'b', 'a'), ('a', None), (None, None), ('A', 'b'), ('a', ''),
                      (0, 1), (True, 'a'), (['a'], 'b'), ('a', ['b']), (('a', 'b'),), (('a', 'b'), 'c'), ('a', 'b', 'b')):
            self.unusable('names', -1, Net.ring, *names)
        for value in ANYTHING:
            self.unusable('names', -1, Net.ring, value)
            self.unusable('names', -1, Net.ring, 'a', value, value)


if __name__ == '__main__':
    unittest.main()
