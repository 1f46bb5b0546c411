"""Comparing rules: promise [37]."""

import random
import unittest

from glances import logged, random_sheet, some_inputs
from runlore.boxes import Box
from runlore.errors import NoCell, TooMany
from runlore.sameness import same
from runlore.sheets import Sheet
from runlore.tables import table
from runlore.treetexts import read_expression as text
from runlore.trees import Book
from runlore.values import Fault


def sheet_of(body, inputs=('x', 'y'), book=Book(())):
    return Sheet(book, inputs, (('c', text(body)),))


class SameTest(unittest.TestCase):
    def compare(self, one, other, box):
        """What `same` tells of two texts; what it returns is looked at."""
        first, second = sheet_of(one), sheet_of(other)
        return looked_at(self, first, 'c', second, 'c', box)

    def test_equal_by_other_texts(self):
        for one, other in (
                ('( plus ( plus ( read x ) 1 ) 2 )', '( plus ( read x ) 3 )'),
                ('( tuple ( read x ) )', '( let z ( read x ) ( tuple z ) )'),
                ('( if ( most ( read x ) 0 ( read y ) ) ( read y ) ( read x ) )',
                 '( if ( most ( read x ) 1 ( read y ) ) ( read y ) ( read x ) )'),
                ('( if ( most ( read x ) 0 ( read y ) ) ( read x ) ( read y ) )',
                 '( if ( not ( most ( read x ) 0 ( read y ) ) ) ( read y ) ( read x ) )'),
                ("( if ( alike ( read x ) 'red ) ( read x ) 1 )", "( if ( alike 'red ( read x ) ) 'red 1 )"),
                ('( each z ( read x ) z )', '( join ( read x ) ( tuple ) )'),
                ('( fold n 0 z ( read x ) ( plus n 1 ) )', '( fold n 0 z ( each q ( read x ) 5 ) ( plus n 1 ) )'),
                ('( pick z ( read x ) ( is atom z ) )',
                 '( fold a ( tuple ) z ( read x ) ( if ( is atom z ) ( join a ( tuple z ) ) a ) )'),
                ('( fail bad )', '( if ( most 0 0 1 ) ( fail bad ) 1 )')):
            for box in (Box(0, 0), Box(2, 1), Box(2, 2)):
                self.assertEqual(self.compare(one, other, box)[0], 'same', one)

    def test_the_text_of_a_result_does_not_matter(self):
        """A tuple that is moved, and one that is built of its parts."""
        one, other = '( if ( is tuple ( read x ) ) ( read x ) ( fail no ) )', '( if ( is tuple ( read x ) ) ( each z ( read x ) z ) ( fail no ) )'
        self.assertEqual(self.compare(one, other, Box(3, 3))[0], 'same')

    def test_parted_in_one_input(self):
        one = '( if ( both ( most ( read x ) 0 7 ) ( most 7 0 ( read x ) ) ) 1 ( read x ) )'
        told = self.compare(one, '( plus ( read x ) 0 )', Box(0, 0))
        self.assertEqual(told[:2], ('parted', {'x': 7}))
        red = "( if ( alike ( read x ) 'red ) 'blue ( read x ) )"
        told = self.compare(red, "( if ( is atom ( read x ) ) ( read x ) ( plus 'a 1 ) )", Box(0, 0))
        self.assertEqual(told[:2], ('parted', {'x': 'red'}))

    def test_parted_in_the_word_of_a_fault(self):
        self.assertEqual(self.compare('( fail bad )', '( fail worse )', Box(1, 1))[:2], ('parted', {}))
        told = self.compare('( plus ( read x ) 1 )', '( if ( is integer ( read x ) ) ( plus ( read x ) 1 ) ( fail no ) )', Box(1, 1))
        self.assertEqual((told[0], told[2].result, told[3].result), ('parted', Fault('kind'), Fault('no')))
        # The rule and the path of a fault do not matter.
        self.assertEqual(self.compare('( plus ( read x ) 1 )', '( plus ( plus ( read x ) 0 ) 1 )', Box(1, 1))[0], 'same')

    def test_parted_in_a_read_only(self):
        told = self.compare('5', '( let z ( read x ) 5 )', Box(1, 1))
        self.assertEqual(told[0], 'parted')
        self.assertIsInstance(told[1]['x'], Fault)
        # The order of reads tells nothing about results, and what is read twice neither.
        self.assertEqual(self.compare(
            '( let p ( read x ) ( let q ( read y ) 5 ) )', '( let q ( read y ) ( let p ( read x ) 5 ) )', Box(1, 1))[0], 'same')

    def test_a_value_and_a_fault(self):
        told = self.compare('5', '( fail bad )', Box(0, 0))
        self.assertEqual((told[0], told[1]), ('parted', {}))
        self.assertEqual(str(told[2].result), '5')
        self.assertEqual(told[3].result, Fault('bad'))

    def test_the_box_counts(self):
        sizes = '( fold n 0 z ( read x ) ( plus n 1 ) )'
        two = '( if ( sized ( read x ) 0 ) 0 ( if ( sized ( read x ) 1 ) 1 2 ) )'
        self.assertEqual(self.compare(sizes, two, Box(2, 1))[0], 'same')
        told = self.compare(sizes, two, Box(3, 1))
        self.assertEqual(told[:2], ('parted', {'x': (0, 0, 0)}))
        # In a box without parts a tuple is the empty one.
        empty = '( if ( is tuple ( read x ) ) ( tuple ) ( read x ) )'
        self.assertEqual(self.compare('( read x )', empty, Box(0, 4))[0], 'same')
        self.assertEqual(self.compare('( read x )', empty, Box(1, 0))[0], 'same')
        self.assertEqual(self.compare('( read x )', empty, Box(1, 1))[1], {'x': (0,)})

    def test_the_box_counts_for_what_is_not_glanced_at(self):
        part = '( if ( sized ( read x ) 1 ) ( part ( read x ) 0 ) 1 )'
        flat = ('( if ( sized ( read x ) 1 ) ( let p ( part ( read x ) 0 ) ( if ( is tuple p ) ( tuple ) p ) ) 1 )')
        self.assertEqual(self.compare(part, flat, Box(1, 1))[0], 'same')
        self.assertEqual(self.compare(part, flat, Box(0, 2))[0], 'same')
        self.assertEqual(self.compare(part, flat, Box(1, 2))[:2], ('parted', {'x': ((0,),)}))

    def test_two_places(self):
        for box in (Box(0, 0), Box(0, 1), Box(2, 2)):
            self.assertEqual(self.compare('( read x )', '( read y )', box)[0], 'parted')
        both = '( if ( both ( is tuple ( read x ) ) ( is tuple ( read y ) ) ) {} ( tuple ( read x ) ( read y ) ) )'
        one, other = both.format('( read x )'), both.format('( read y )')
        self.assertEqual(self.compare(one, other, Box(0, 1))[0], 'same')
        self.assertEqual(self.compare(one, other, Box(2, 0))[0], 'same')
        self.assertEqual(self.compare(one, other, Box(1, 1))[0], 'parted')

    def test_cells_and_definitions(self):
        f = ('f', ('p',), None, ('plus', ('name', 'p'), 2))
        one = Sheet(Book((f,)), ('x',), (('c', text('( call f ( read d ) )')), ('d', ('int', 1))))
        two = Sheet(Book(()), ('x',), (('c', ('int', 3)), ('d', text('( plus ( plus ( read d ) 1 ) 1 )'))))
        told = looked_at(self, one, 'c', two, 'd', Box(1, 1))
        # Rules are functions of what they read: that the cell d is 1 there does not count.
        self.assertEqual(told[0], 'same')
        self.assertEqual(looked_at(self, one, 'c', two, 'c', Box(1, 1))[0], 'parted')

    def test_reach_knows_the_names_of_the_sheet(self):
        one = '( reach ( read x ) )'
        other = ("( if ( alike ( read x ) 'x ) ( read x ) ( if ( alike ( read x ) 'y ) ( read y ) "
                 "( if ( alike ( read x ) 'c ) ( read c ) ( fail name ) ) ) )")
        self.assertEqual(self.compare(one, other, Box(1, 1))[0], 'same')
        worse = other.replace('( fail name )', '( fail read )')
        told = self.compare(one, worse, Box(1, 1))
        self.assertEqual((told[0], told[2].result), ('parted', Fault('name')))

    def test_most(self):
        long = '( fold n 0 z ( read x ) ( plus n 1 ) )'
        a, b = sheet_of(long), sheet_of('( read x )')
        for one, other, most in ((a, b, 4), (b, a, 4), (a, a, 4), (b, b, 1)):
            with self.assertRaises(TooMany) as caught:
                same(one, 'c', other, 'c', Box(2, 1), most=most)
            self.assertEqual(caught.exception.most, most)
        self.assertEqual(same(a, 'c', a, 'c', Box(2, 1), most=5)[0], 'same')
        self.assertEqual(same(b, 'c', b, 'c', Box(2, 1), most=2)[0], 'same')
        with self.assertRaises(TypeError):
            same(a, 'c', a, 'c', Box(2, 1), 5)

    def test_lacking_cells(self):
        s = sheet_of('( read x )')
        for cell, other, name in (('p', 'q', 'p'), ('c', 'q', 'q'), ('p', 'c', 'p'), ('x', 'c', 'x')):
            with self.assertRaises(NoCell) as caught:
                same(sheet=s, cell=cell, other=s, other_cell=other, box=Box(1, 1), most=1)
            self.assertEqual(caught.exception.name, name)


def looked_at(test, one, cell, other, other_cell, box, most=400):
    """What `same` tells, which is held against tables and plain runs."""
    told = same(one, cell, other, other_cell, box, most=most)
    first, second = table(one, cell, box, most=most), table(other, other_cell, box, most=most)
    if told[0] == 'same':
        test.assertEqual(told, ('same', first, second))
        return told
    word, inputs, a, b = told
    test.assertEqual(word, 'parted')
    test.assertTrue(a in first and b in second and inputs in a and inputs in b)
    test.assertTrue(all(box.fits(value) for value in inputs.values()))
    names = {note[1] for clause in (a, b) for note in clause.notes if note[0] == 'read'}
    test.assertTrue(names <= {*inputs})
    results = logged(one, cell, inputs)[1], logged(other, other_cell, inputs)[1]
    test.assertNotEqual(*results)
    test.assertEqual(results, (a(inputs), b(inputs)))
    return told


def changed(chance, tree):
    """A tree in which one number, atom or name that is read is another one."""
    leaves = []

    def walk(one, path):
        if one[0] in ('int', 'atom', 'read'):
            leaves.append(path)
        for at, item in enumerate(one):
            if isinstance(item, tuple):
                if item and isinstance(item[0], tuple):
                    for index, inner in enumerate(item):
                        walk(inner, path + (at, index))
                elif item:
                    walk(item, path + (at,))

    def replace(one, path):
        if not path:
            return {'int': ('int', chance.randint(-2, 2)), 'atom': ('atom', chance.choice('abx')),
                    'read': ('read', chance.choice('xy'))}[one[0]]
        return (*one[:path[0]], replace(one[path[0]], path[1:]), *one[path[0] + 1:])

    walk(tree, ())
    return replace(tree, chance.choice(leaves)) if leaves else tree


class SearchTest(unittest.TestCase):
    def test_random_rules(self):
        counts = {'same': 0, 'parted': 0}
        for seed in range(250):
            sheet = random_sheet(seed, 3)
            body = sheet.body('c')
            other = changed(random.Random(seed), body)
            box = Box(seed % 3, (seed // 3) % 3)
            try:
                told = looked_at(self, sheet, 'c', sheet.rewritten('c', other), 'c', box, 120)
            except TooMany:
                continue
            counts[told[0]] += 1
            if told[0] == 'same':
                for given in some_inputs(seed, box, 30):
                    results = [logged(one, 'c', given)[1] for one in (sheet, sheet.rewritten('c', other))]
                    self.assertEqual(*results)
            again = ('let', 'zz', ('tuple', (('int', 5),)), ('if', ('is', 'tuple', ('name', 'zz')), body, ('int', 1)))
            self.assertEqual(same(sheet, 'c', sheet.rewritten('c', again), 'c', box, most=120)[0], 'same')
        self.assertGreater(min(counts.values()), 40, counts)


if __name__ == '__main__':
    unittest.main()
