"""Boxes: promise [29], and [24] where they narrow regions."""

import itertools
import random
import unittest

from runlore.boxes import Box
from runlore.kindsets import Kinds
from runlore.regions import Region
from runlore.values import Fault, depth_of

INTEGER, ATOM, TUPLE = Kinds.of('integer'), Kinds.of('atom'), Kinds.of('tuple')


def values_in(size, depth, leaves):
    """All values of a box, in order, as a list."""
    if depth < 0:
        return []
    inner = values_in(size, depth - 1, leaves)
    found = list(leaves)
    if depth > 0:
        for many in range(size + 1):
            found.extend(itertools.product(inner, repeat=many))
    return found


def greatest_size(value):
    if not isinstance(value, tuple):
        return 0
    return max([len(value)] + [greatest_size(part) for part in value])


class FitTest(unittest.TestCase):
    def test_attributes(self):
        box = Box(size=3, depth=2)
        self.assertEqual((box.size, box.depth), (3, 2))

    def test_fits(self):
        box = Box(2, 2)
        for value in (5, -1000000000, 'a', (), (1,), (1, 2), ((), ()), ((1, 2), 'a'), Fault('read'), Fault('knot', 'x')):
            self.assertIs(box.fits(value), True, value)
        for value in ((1, 2, 3), ((1, 2, 3),), (((),),), (1, (2, (3,)))):
            self.assertIs(box.fits(value), False, value)

    def test_boxes_of_nothing(self):
        for box in (Box(0, 0), Box(3, 0)):
            self.assertIs(box.fits(7), True)
            self.assertIs(box.fits(()), False)
            self.assertIs(box.fits(Fault('a')), True)
        self.assertIs(Box(0, 1).fits(()), True)
        self.assertIs(Box(0, 3).fits(((),)), False)

    def test_all_values(self):
        for value in values_in(2, 3, (0,)) + [((((),),),), (0, 0, 0)]:
            for size in range(4):
                for depth in range(5):
                    want = greatest_size(value) <= size and depth_of(value) <= depth
                    self.assertIs(Box(size, depth).fits(value), want)

    def test_kinds(self):
        box = Box(2, 1)
        self.assertEqual(str(box.kinds(('x',))), 'integer|atom|tuple 0 1 2|fault')
        self.assertEqual(str(box.kinds(('x', 0))), 'integer|atom')
        self.assertEqual(str(box.kinds(('x', 7, 7))), 'integer|atom')
        self.assertEqual(str(Box(0, 2).kinds(('x', 0))), 'integer|atom|tuple 0')
        self.assertEqual(str(Box(3, 0).kinds(('x',))), 'integer|atom|fault')
        self.assertEqual(str(Box(4, 4).kinds(('x', 0, 1, 2))), 'integer|atom|tuple 0 1 2 3 4')
        self.assertEqual(str(Box(4, 4).kinds(('x', 0, 1, 2, 3))), 'integer|atom')


class NarrowTest(unittest.TestCase):
    def test_narrowed(self):
        some = Region([('kinds', ('x',), TUPLE)])
        self.assertEqual(Box(2, 1).narrowed(some).words, (
            ('kinds', ('x',), Kinds.sized(0) | Kinds.sized(1) | Kinds.sized(2)),))
        self.assertEqual(Box(2, 0).narrowed(some).conflict, ('kinds', ('x',)))
        self.assertEqual(Box(2, 1).narrowed(Region()), Region())
        self.assertEqual(Box(0, 0).narrowed(Region()).least, {})

    def test_only_places_of_the_normal_form(self):
        one = Region([('kinds', ('x',), Kinds.sized(1))])
        self.assertEqual(Box(1, 1).narrowed(one), one)
        part = one.with_word(('kinds', ('x', 0), Kinds.present() - INTEGER))
        self.assertEqual(str(Box(1, 1).narrowed(part).kinds(('x', 0))), 'atom')
        self.assertEqual(str(Box(1, 2).narrowed(part).kinds(('x', 0))), 'atom|tuple 0 1')

    def test_without_a_member(self):
        empty = Region([('kinds', ('x',), INTEGER), ('kinds', ('x',), ATOM)])
        self.assertEqual(Box(1, 1).narrowed(empty), empty)
        self.assertIsNone(Box(1, 1).narrowed(empty).least)
        self.assertIsNotNone(Box(1, 1).narrowed(empty).conflict)

    def test_the_region_stays(self):
        some = Region([('kinds', ('x',), TUPLE)])
        words = some.words
        Box(1, 1).narrowed(some)
        self.assertEqual(some.words, words)

    def test_narrowed_meets_words_and_regions(self):
        """with_word, & and narrowed lead to the same members in the box."""
        box = Box(2, 1)
        x, y = ('x',), ('y',)
        one = Region([('kinds', x, TUPLE | INTEGER)])
        other = Region([('kinds', y, INTEGER), ('kinds', x, Kinds.present() - Kinds.sized(1))])
        both = box.narrowed(one & other)
        self.assertEqual(both, box.narrowed(one) & box.narrowed(other))
        self.assertEqual(both, box.narrowed(one & box.narrowed(other)))
        self.assertEqual(str(both.kinds(x)), 'integer|tuple 0 2')
        grounded = both.with_word(('kinds', x, INTEGER)).with_word(('tie', x, y, -3))
        self.assertEqual(grounded.least, {'x': 0, 'y': 3})
        self.assertEqual(box.narrowed(grounded), grounded)
        none = Box(1, 1).narrowed(both.with_word(('kinds', x, Kinds.sized(2))))
        self.assertFalse(none)
        self.assertFalse(none & one)
        self.assertFalse(none.with_word('no word'))

    def test_random_regions(self):
        """A member exactly if the region has one in the box, and its least one in the box."""
        chance = random.Random(5)
        sets = [INTEGER, ATOM, TUPLE, Kinds.sized(0), Kinds.sized(1), Kinds.sized(2), Kinds.sized(3),
                Kinds.present() - INTEGER, Kinds.of('fault'), TUPLE - Kinds.sized(1), Kinds.present() - ATOM]
        places = [('x',), ('y',), ('x', 0), ('x', 1), ('x', 0, 0)]
        many = 0
        for _ in range(300):
            region = Region()
            for place in places:
                if chance.random() < 0.7 and region.kinds(place) is not None:
                    region = region.with_word(('kinds', place, chance.choice(sets)))
            box = Box(chance.randint(0, 2), chance.randint(0, 2))
            narrow = box.narrowed(region)
            names = sorted({word[1][0] for word in region.words or ()})
            members = [
                given for given in box.all_inputs(names, (0,), ('a',), faults=True) if region and given in region]
            self.assertEqual(bool(narrow), bool(members))
            if members:
                many += 1
                self.assertIn(narrow.least, members)
                self.assertTrue(narrow.within(region))
        self.assertGreater(many, 100)


class AllInputsTest(unittest.TestCase):
    def test_order(self):
        found = list(Box(1, 1).all_inputs(('x', 'y'), (1, 0), ('b', 'a')))
        values = [1, 0, 'b', 'a', (), (1,), (0,), ('b',), ('a',)]
        self.assertEqual(found, [{'x': x, 'y': y} for x in values for y in values])

    def test_faults_come_last(self):
        found = list(Box(1, 1).all_inputs(('x',), (), ('a',), faults=True))
        self.assertEqual(found, [{'x': 'a'}, {'x': ()}, {'x': ('a',)}, {'x': Fault('read')}])
        self.assertEqual(found[-1]['x'].word, 'read')
        pairs = list(Box(0, 0).all_inputs(('x', 'y'), (5,), (), faults=True))
        self.assertEqual([(given['x'], given['y']) for given in pairs], [
            (5, 5), (5, Fault('read')), (Fault('read'), 5), (Fault('read'), Fault('read'))])

    def test_against_a_list(self):
        for size in range(4):
            for depth in range(3):
                for leaves in ((), (0,), (0, 'a')):
                    values = values_in(size, depth, leaves)
                    if len(values) > 5000:
                        continue
                    integers = tuple(one for one in leaves if isinstance(one, int))
                    atoms = tuple(one for one in leaves if isinstance(one, str))
                    found = list(Box(size, depth).all_inputs(('x',), integers, atoms))
                    self.assertEqual(found, [{'x': value} for value in values])
                    box = Box(size, depth)
                    self.assertTrue(all(box.fits(given['x']) for given in found))

    def test_without_names_or_values(self):
        self.assertEqual(list(Box(2, 2).all_inputs((), (1,), ('a',), faults=True)), [{}])
        self.assertEqual(list(Box(2, 0).all_inputs(('x',), (), ())), [])
        self.assertEqual(list(Box(2, 1).all_inputs(('x',), (), ())), [{'x': ()}])
        self.assertEqual(list(Box(2, 2).all_inputs(('x',), (), ())), [{'x': ()}, {'x': ((),)}, {'x': ((), ())}])
        self.assertEqual(list(Box(1, 0).all_inputs(('x',), (), (), faults=True)), [{'x': Fault('read')}])

    def test_one_by_one(self):
        """Of more inputs than anything can hold, the first ones come at once."""
        names = ('a', 'b', 'c')
        first = list(itertools.islice(Box(4, 4).all_inputs(names, (0, 1), ('x',)), 30))
        self.assertEqual(first[0], {'a': 0, 'b': 0, 'c': 0})
        self.assertEqual(first[3], {'a': 0, 'b': 0, 'c': ()})

    def test_inputs_are_new(self):
        found = list(Box(0, 0).all_inputs(names=('x',), integers=(1, 2), atoms=(), faults=False))
        found[0]['x'] = 9
        self.assertEqual(found[1], {'x': 2})
        self.assertEqual(list(Box(0, 0).all_inputs(['x'], [1, 2], [])), [{'x': 1}, {'x': 2}])

    def test_faults_by_name_only(self):
        with self.assertRaises(TypeError):
            Box(0, 0).all_inputs(('x',), (), (), True)


if __name__ == '__main__':
    unittest.main()
