"""Promises [6] to [8]: values, kinds, depth, faults, the order of values."""

import itertools
import unittest

from runlore.values import Fault, depth_of, is_before, is_value, kind_of


def nest(many, inside=()):
    for _ in range(many):
        inside = (inside,)
    return inside


class ValueTest(unittest.TestCase):
    def test_values(self):
        for thing in (0, -1, 10 ** 9, -10 ** 9, 'a', 'z', 'red', 'abcdefgh', (), (1, 'a', ()), nest(7), (((0,), 'x'),)):
            self.assertIs(is_value(thing), True, thing)

    def test_names_have_1_to_8_letters_a_to_z(self):
        for thing in ('', 'abcdefghi', 'A', 'aB', 'a1', 'a b', 'a_b', ' ', '1', 'a\n', '\u00e4', 'a.b', '`', '{'):
            self.assertIs(is_value(thing), False, thing)

    def test_no_values(self):
        for thing in (True, False, None, 1.0, 0.5, [], [1], 1j, ['a']):
            for inside in (thing, (thing,), (1, thing), ((), ('a', (thing,)))):
                self.assertIs(is_value(inside), False, inside)

    def test_by_name(self):
        self.assertIs(is_value(thing=1), True)
        self.assertEqual(kind_of(value='a'), 'atom')
        self.assertEqual(depth_of(value=()), 1)
        self.assertIs(is_before(one=0, other=1), True)

    def test_kinds(self):
        self.assertEqual([kind_of(value) for value in (0, -5, 'red', (), (1, 'a'))],
                         ['integer', 'integer', 'atom', 'tuple', 'tuple'])

    def test_depth(self):
        self.assertEqual([depth_of(value) for value in (0, 'red', (), (1,), ((),), (1, (2, ()), 'a'), nest(7))],
                         [0, 0, 1, 1, 2, 3, 8])
        self.assertEqual(depth_of(((((),),), (), ((),))), 4)

    def test_deep_values(self):
        deep = nest(3000)
        self.assertIs(is_value(deep), True)
        self.assertEqual(depth_of(deep), 3001)
        self.assertIs(is_before(deep, nest(3000, (0,))), True)


class FaultTest(unittest.TestCase):
    def test_attributes(self):
        for fault in (Fault('kind', 'big', (1, 2)), Fault(word='kind', rule='big', path=(1, 2))):
            self.assertEqual((fault.word, fault.rule, fault.path), ('kind', 'big', (1, 2)))
        fault = Fault('kind')
        self.assertEqual((fault.word, fault.rule, fault.path), ('kind', '', ()))

    def test_equal(self):
        self.assertEqual(Fault('kind', 'a', (1,)), Fault('kind'))
        self.assertNotEqual(Fault('kind'), Fault('part'))
        for thing in ('kind', ('kind',), None, 0, object()):
            self.assertIs(Fault('kind') == thing, False)
            self.assertIs(Fault('kind') != thing, True)

    def test_texts(self):
        self.assertEqual(str(Fault('kind', 'a', (1,))), 'fault kind')
        self.assertEqual(repr(Fault('kind', 'a', (1,))), "Fault('kind')")


class OrderTest(unittest.TestCase):
    def test_whole_order(self):
        ordered = [
            0, 1, -1, 2, -2, 3, 10, -10, 10 ** 9, -10 ** 9,
            'a', 'b', 'z', 'aa', 'ab', 'zz', 'aaa', 'abcdefgh',
            (), (0,), (1,), (-1,), ('a',), ((),), ((0,),), (0, 0), (0, 1), (0, 'a'), (1, 0), ('a', 0), ((), 0),
            ((0, 0), ()), (0, 0, 0), Fault('a')]
        for (at, one), (to, other) in itertools.product(enumerate(ordered), repeat=2):
            self.assertIs(is_before(one, other), at < to, (one, other))

    def test_faults_are_last_and_none_comes_before_another(self):
        self.assertIs(is_before(Fault('a'), Fault('b')), False)
        self.assertIs(is_before(Fault('b'), Fault('a')), False)
        self.assertIs(is_before(Fault('a'), 0), False)
        self.assertIs(is_before((9, 9, 9), Fault('a')), True)

    def test_the_first_difference_decides(self):
        self.assertIs(is_before((0, (1, 5)), (0, (-1, 0))), True)
        self.assertIs(is_before((0, (-1, 0)), (0, (1, 5))), False)
        self.assertIs(is_before(((0,), 9), ((0, 0), 0)), True)


if __name__ == '__main__':
    unittest.main()
