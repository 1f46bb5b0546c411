"""Sheets, what their cells return, and knots: promises [30], [31] and the example of [1]."""

import random
import unittest

from reference import Writer
from runlore.errors import NoBook, NoCell, NoSheet
from runlore.runner import plain
from runlore.sheets import Sheet
from runlore.treetexts import read_expression as text
from runlore.trees import Book, look_body
from runlore.values import Fault

EMPTY = Book(())
ONE = ('int', 1)


def sheet_of(inputs, *cells, book=EMPTY):
    """A sheet of cells that are given as name, text, name, text .."""
    return Sheet(book, inputs, tuple(zip(cells[::2], [text(body) for body in cells[1::2]])))


def wrong(book, inputs, cells):
    try:
        Sheet(book, inputs, cells)
    except NoSheet as e:
        return e.word, e.name
    return None


class ExampleTest(unittest.TestCase):
    def test_overview(self):
        body = ('if', ('most', ('read', 'a'), 0, ('read', 'b')), ('read', 'b'), ('read', 'a'))
        s = Sheet(Book(()), ('a', 'b'), (('big', body),))
        self.assertEqual(s.answer('big', {'a': 3, 'b': 5}), 5)

    def test_knots(self):
        a = ('a', text('( if ( most ( read i ) 0 0 ) ( read b ) 1 )'))
        s = Sheet(Book(()), ('i',), (a, ('b', ('read', 'a')), ('e', text('( tuple ( read b ) )'))))
        self.assertEqual((s.answer('e', {'i': 4}), s.knots({'i': 4})), ((1,), ()))
        self.assertEqual(s.answer('e', {'i': 0}).word, 'read')
        self.assertEqual(s.answer('a', {'i': 0}).word, 'knot')
        self.assertEqual(s.knots({'i': 0}), (('a', 'b'),))


class SheetTest(unittest.TestCase):
    def test_properties(self):
        book = Book((('f', (), None, ONE),))
        s = Sheet(book=book, inputs=('i', 'k'), cells=(('c', ONE), ('d', ('read', 'c'))))
        self.assertEqual(s.book, book)
        self.assertEqual(s.inputs, ('i', 'k'))
        self.assertEqual(s.cells, (('c', ONE), ('d', ('read', 'c'))))
        self.assertEqual(s.names, ('i', 'k', 'c', 'd'))
        self.assertEqual(s.body('d'), ('read', 'c'))

    def test_equal_sheets(self):
        cells = (('c', ONE), ('d', ONE))
        self.assertEqual(Sheet(EMPTY, ('i',), cells), Sheet(Book(()), ('i',), cells))
        self.assertNotEqual(Sheet(EMPTY, ('i',), cells), Sheet(EMPTY, ('k',), cells))
        self.assertNotEqual(Sheet(EMPTY, ('i',), cells), Sheet(EMPTY, ('i',), cells[::-1]))
        self.assertNotEqual(Sheet(EMPTY, ('i',), cells), Sheet(Book((('f', (), None, ONE),)), ('i',), cells))
        self.assertNotEqual(Sheet(EMPTY, ('i',), cells), cells)

    def test_lists_that_change_later(self):
        inputs, cells = ['i'], [('c', ONE)]
        s = Sheet(EMPTY, inputs, cells)
        inputs.append('k')
        cells.clear()
        self.assertEqual((s.inputs, s.cells, s.names), (('i',), (('c', ONE),), ('i', 'c')))

    def test_wrong_names(self):
        for name in ('', 'I', 5, None, True, ('i',), 'toolongaa'):
            self.assertEqual(wrong(EMPTY, ('i', name), (('c', ONE),)), ('name', name))
            self.assertEqual(wrong(EMPTY, ('i',), (('c', ONE), (name, ONE))), ('name', name))
        self.assertEqual(wrong(EMPTY, ('i', 'k', 'i'), ()), ('twice', 'i'))
        self.assertEqual(wrong(EMPTY, ('i', 'k'), (('k', ONE),)), ('twice', 'k'))
        self.assertEqual(wrong(EMPTY, (), (('c', ONE), ('d', ONE), ('c', ONE))), ('twice', 'c'))
        self.assertEqual(wrong(EMPTY, ('i', 'i', 5), ()), ('twice', 'i'))
        self.assertEqual(wrong(EMPTY, ('i', 5, 'i'), ()), ('name', 5))

    def test_names_come_before_bodies(self):
        self.assertEqual(wrong(EMPTY, ('i',), (('c', ()), ('i', ONE))), ('twice', 'i'))
        self.assertEqual(wrong(EMPTY, ('i',), (('c', ('read', 'q')), ('D', ONE))), ('name', 'D'))

    def test_wrong_bodies(self):
        book = Book((('f', ('x',), None, ('name', 'x')), ('r', (), None, ('read', 'i'))))
        for body, word in (
                ((), 'form'), (('is', 'atom', ONE), 'form'), (('name', 'x'), 'unknown'),
                (('fold', 'a', ONE, 'a', ONE, ONE), 'bound'), (('call', 'g', ()), 'call'),
                (('call', 'f', ()), 'arguments'), (('read', 'q'), 'read'), (('plus', ('read', 'f'), 1), 'read')):
            self.assertEqual(wrong(book, ('i',), (('b', ONE), ('c', body))), (word, 'c'), body)
        self.assertIsNone(wrong(book, ('i',), (('c', ('tuple', (('read', 'i'), ('read', 'c'), ('call', 'r', ())))),)))

    def test_cell_by_cell(self):
        self.assertEqual(wrong(EMPTY, (), (('c', ('read', 'q')), ('d', ()))), ('read', 'c'))
        self.assertEqual(wrong(EMPTY, (), (('c', ('tuple', (('read', 'q'), ()))), ('d', ()))), ('form', 'c'))
        self.assertIsNone(wrong(EMPTY, (), (('c', ('read', 'd')), ('d', ('read', 'c')))))

    def test_definitions_come_after_all_cells(self):
        book = Book((('f', (), None, ('read', 'i')), ('g', (), None, ('plus', ('read', 'q'), 1))))
        self.assertEqual(wrong(book, ('i',), (('c', ONE),)), ('read', 'g'))
        self.assertEqual(wrong(book, ('i',), (('c', ('read', 'q')),)), ('read', 'c'))
        self.assertEqual(wrong(book, ('k',), (('c', ONE),)), ('read', 'f'))
        self.assertIsNone(wrong(book, ('i',), (('q', ('call', 'f', ())),)))

    def test_lacking_cells(self):
        s = sheet_of(('i',), 'c', '1')
        for call in (lambda: s.body('i'), lambda: s.body('q'), lambda: s.rewritten('q', ()), lambda: s.rewritten('i', ONE)):
            with self.assertRaises(NoCell):
                call()
        with self.assertRaises(NoCell) as caught:
            s.rewritten('q', ONE)
        self.assertEqual(caught.exception.name, 'q')

    def test_rewritten(self):
        s = sheet_of(('i',), 'c', '1', 'd', '( read c )')
        other = s.rewritten(name='c', body=('read', 'i'))
        self.assertEqual(other, sheet_of(('i',), 'c', '( read i )', 'd', '( read c )'))
        self.assertEqual(s, sheet_of(('i',), 'c', '1', 'd', '( read c )'))
        for body, word in (((), 'form'), (('read', 'q'), 'read'), (('name', 'x'), 'unknown')):
            with self.assertRaises(NoSheet) as caught:
                s.rewritten('d', body)
            self.assertEqual((caught.exception.word, caught.exception.name), (word, 'd'))

    def test_redefined(self):
        f = ('f', ('x',), None, ('name', 'x'))
        g = ('g', (), None, ('call', 'f', (ONE,)))
        s = sheet_of(('i',), 'c', '( call f 1 )', book=Book((f, g)))
        new = ('f', ('y',), 0, ('read', 'c'))
        other = s.redefined(definition=new)
        self.assertEqual(other.book, Book((new, g)))
        self.assertEqual(other.cells, s.cells)
        self.assertEqual(s.book, Book((f, g)))
        with self.assertRaises(NoCell) as caught:
            s.redefined(('h', (), None, ()))
        self.assertEqual(caught.exception.name, 'h')
        with self.assertRaises(NoCell):
            s.redefined(('c', (), None, ONE))
        for bad, told in (
                (('f',), ('form', '', ())), (('f', ('x', 'x'), None, ONE), ('parameter', 'f', ())),
                (('f', (), None, ONE), ('arguments', 'g', ())), (('f', ('x',), None, ('name', 'z')), ('unknown', 'f', ()))):
            with self.assertRaises(NoBook) as caught:
                s.redefined(bad)
            e = caught.exception
            self.assertEqual((e.word, e.name, e.path), told)
        with self.assertRaises(NoSheet) as caught:
            s.redefined(('f', ('x',), None, ('read', 'q')))
        self.assertEqual((caught.exception.word, caught.exception.name), ('read', 'f'))
        lone = sheet_of((), 'c', '( call f 1 )', book=Book((f,)))
        with self.assertRaises(NoSheet) as caught:
            lone.redefined(('f', (), None, ONE))
        self.assertEqual((caught.exception.word, caught.exception.name), ('arguments', 'c'))


class AnswerTest(unittest.TestCase):
    def test_answers(self):
        s = sheet_of(('i', 'k'), 'c', '( plus ( read i ) 1 )', 'd', '( tuple ( read c ) ( read k ) )', 'e', '( read q )',
                     'q', '( fail bad )')
        given = {'i': 4, 'k': ('a', ())}
        self.assertEqual(s.answer('d', given), (5, ('a', ())))
        self.assertEqual(s.answers(given), {
            'c': 5, 'd': (5, ('a', ())), 'e': Fault('read'), 'q': Fault('bad')})
        self.assertEqual(given, {'i': 4, 'k': ('a', ())})
        self.assertEqual(s.answer(cell='c', given={'i': -1}), 0)
        self.assertEqual(s.knots(given=given), ())

    def test_faults_tell_where(self):
        book = Book((('f', ('x',), None, ('plus', ('name', 'x'), 1)),))
        s = sheet_of((), 'c', "( tuple ( call f 'a ) )", 'd', '( tuple 1 ( read c ) )', 'e', "( tuple 1 ( plus 'a 1 ) )",
                     book=book)
        for cell, told in (('c', ('kind', 'f', ())), ('d', ('read', 'd', (1, 1))), ('e', ('kind', 'e', (1, 1)))):
            fault = s.answer(cell, {})
            self.assertEqual((fault.word, fault.rule, fault.path), told)

    def test_inputs_without_a_value(self):
        s = sheet_of(('i', 'k'), 'c', '( read i )', 'd', '( tuple ( read k ) )', 'e', "( reach 'i )")
        for given in ({'k': 1}, {'k': 1, 'i': Fault('bad')}):
            fault = s.answer('c', given)
            self.assertEqual((fault.word, fault.rule, fault.path), ('read', 'c', ()))
            self.assertEqual(s.answer('d', given), (1,))
            self.assertEqual(s.answer('e', given), Fault('read'))

    def test_reach_knows_the_names_of_the_sheet(self):
        s = sheet_of(('i', 'k'), 'c', '( tuple ( reach ( read i ) ) )', 'd', '( read k )')
        self.assertEqual(s.answer('c', {'i': 'd', 'k': 5}), (5,))
        self.assertEqual(s.answer('c', {'i': 'k', 'k': 5}), (5,))
        self.assertEqual(s.answer('c', {'i': 'i', 'k': 5}), ('i',))
        self.assertEqual(s.answer('c', {'i': 'q', 'k': 5}), Fault('name'))
        self.assertEqual(s.answer('c', {'i': 5}), Fault('kind'))
        self.assertEqual(s.answer('c', {'i': 'c'}), Fault('knot'))
        self.assertEqual(s.knots({'i': 'c'}), (('c',),))

    def test_lacking_names(self):
        s = sheet_of(('i', 'k'), 'c', '1')
        for call, name in (
                (lambda: s.answer('q', {}), 'q'), (lambda: s.answer('i', {'i': 1}), 'i'),
                (lambda: s.answer('q', {'z': 1}), 'q'), (lambda: s.answer('c', {'z': 1, 'b': 2, 'i': 3}), 'b'),
                (lambda: s.answers({'c': 1}), 'c'), (lambda: s.knots({'i': 1, 'z': 2, 'y': 3}), 'y')):
            with self.assertRaises(NoCell) as caught:
                call()
            self.assertEqual(caught.exception.name, name)

    def test_only_what_is_needed_is_run(self):
        """A cell of a ring that no run reads does not matter."""
        s = sheet_of(('i',), 'c', '( if ( is atom ( read i ) ) ( read d ) 1 )', 'd', '( read c )', 'e', '( read c )')
        self.assertEqual(s.answers({'i': 1}), {'c': 1, 'd': 1, 'e': 1})
        self.assertEqual(s.answers({'i': 'a'}), {'c': Fault('knot'), 'd': Fault('knot'), 'e': Fault('read')})

    def test_each_cell_has_its_own_work(self):
        big = '( fold a ( tuple 0 0 0 0 0 0 0 0 0 0 0 ) x ( read i ) ( join a a ) )'
        s = sheet_of(('i',), 'c', big, 'd', '( tuple ( read c ) )')
        self.assertEqual(s.answer('c', {'i': (1,) * 9}), Fault('long'))
        value = s.answer('d', {'i': (1,) * 6})[0]
        self.assertEqual(len(value), 704)

    def test_depth_grows_from_cell_to_cell(self):
        names = 'bcdefgh'
        cells = [('a', text('( fold t ( tuple ) x ( read i ) ( tuple t ) )'))]
        for before, name in zip('a' + names, names):
            cells.append((name, text(f'( fold t ( read {before} ) x ( read i ) ( tuple t ) )')))
        s = Sheet(EMPTY, ('i',), tuple(cells))
        value = s.answer('h', {'i': tuple(range(25))})
        depth = 0
        while value:
            value = value[0]
            depth += 1
        self.assertEqual(depth, 200)


class KnotTest(unittest.TestCase):
    def check(self, s, given, knots):
        """The rings, whatever is asked first."""
        self.assertEqual(s.knots(given), knots)
        answers = s.answers(given)
        in_rings = {name for ring in knots for name in ring}
        for name, _ in s.cells:
            one = s.answer(name, given)
            self.assertEqual(one, answers[name])
            self.assertEqual(isinstance(one, Fault) and one.word == 'knot', name in in_rings)
            if name in in_rings:
                self.assertEqual((one.rule, one.path), (name, ()))

    def test_rings(self):
        self.check(sheet_of((), 'a', '( read a )'), {}, (('a',),))
        self.check(sheet_of((), 'a', '( read b )', 'b', '( read a )'), {}, (('a', 'b'),))
        self.check(sheet_of((), 'a', '( read c )', 'b', '( read a )', 'c', '( read b )'), {}, (('a', 'c', 'b'),))
        self.check(sheet_of((), 'd', '( read c )', 'a', '( read d )', 'c', '( read a )'), {}, (('d', 'c', 'a'),))

    def test_several_rings(self):
        s = sheet_of((), 'e', '( read f )', 'a', '( read b )', 'z', '( read z )', 'b', '( read a )', 'f', '( read e )')
        self.check(s, {}, (('e', 'f'), ('a', 'b'), ('z',)))

    def test_cells_beside_a_ring(self):
        s = sheet_of((), 'p', '( tuple ( read q ) )', 'q', '( tuple ( read a ) )', 'a', '( read b )', 'b', '( read a )')
        self.check(s, {}, (('a', 'b'),))
        self.assertEqual(s.answers({}), {
            'p': Fault('read'), 'q': Fault('read'), 'a': Fault('knot'), 'b': Fault('knot')})
        fault = s.answer('p', {})
        self.assertEqual((fault.rule, fault.path), ('p', (1, 0)))

    def test_a_cell_that_would_read_more_later(self):
        """The run of b waits for a; that it would then read c, too, does not matter."""
        s = sheet_of((), 'a', '( read b )', 'b', '( tuple ( read a ) ( read c ) )', 'c', '( read b )')
        self.check(s, {}, (('a', 'b'),))
        self.assertEqual(s.answer('c', {}), Fault('read'))

    def test_long_ways_into_a_ring(self):
        names = 'abcdefgh'
        cells = tuple((name, ('read', other)) for name, other in zip(names, names[1:] + 'f'))
        self.check(Sheet(EMPTY, (), cells), {}, (('f', 'g', 'h'),))
        self.assertEqual(Sheet(EMPTY, (), cells).answer('a', {}), Fault('read'))

    def test_knots_through_definitions_and_reach(self):
        book = Book((('f', (), None, ('read', 'a')),))
        s = sheet_of(('i',), 'a', "( reach ( read i ) )", 'b', '( call f )', book=book)
        self.check(s, {'i': 'b'}, (('a', 'b'),))
        self.check(s, {'i': 'i'}, ())


class SearchTest(unittest.TestCase):
    """Random sheets against cells that are run again and again till all answers are found."""

    def test_random_sheets(self):
        found = {}
        for seed in range(400):
            cells = ('p', 'q', 'r', 's', 't')
            writer = Writer(seed, ('x', 'y', *cells))
            one = ('d', ('n',), None, writer.expression(2, ('n',)))
            s = Sheet(Book((one,)), ('x', 'y'), tuple((name, writer.expression(3, (), (('d', 1),))) for name in cells))
            chance = random.Random(seed)
            for _ in range(3):
                given = {name: chance.choice((0, 1, 'a', 'p', (), (1, 2), ('x', 3))) for name in ('x', 'y')}
                if chance.random() < 0.2:
                    del given[chance.choice(('x', 'y'))]
                answers, rings = settled(s, given)
                self.assertEqual(s.answers(given), answers)
                self.assertEqual(s.knots(given), rings)
                for name in cells:
                    one, want = s.answer(name, given), answers[name]
                    self.assertEqual(one, want)
                    if isinstance(want, Fault):
                        self.assertEqual((one.rule, one.path), (want.rule, want.path))
                    found['fault' if isinstance(want, Fault) else 'value'] = True
                for ring in rings:
                    found[len(ring)] = found.get(len(ring), 0) + 1
        self.assertTrue(found['fault'] and found['value'])
        self.assertGreater(min(found.get(size, 0) for size in (1, 2, 3)), 5, found)

    def test_bodies_are_checked(self):
        for seed in range(50):
            self.assertTrue(look_body(EMPTY, Writer(seed, ('x',)).expression(4, ())))


class Waiting(Exception):
    pass


class Settled(dict):
    """Given values, and answers as far as they are known; a look at an unknown one breaks the run off."""

    def __init__(self, names, known):
        super().__init__({name: None for name in names})
        self.known = known

    def __getitem__(self, name):
        if name not in self.known:
            raise Waiting(name)
        return self.known[name]


def settled(s, given):
    """Answers and rings, found in rounds: no cell is asked before another one."""
    known = {name: given.get(name, Fault('read')) for name in s.inputs}
    rings = []
    while len(known) < len(s.names):
        waits, new = {}, {}
        for name, body in s.cells:
            if name not in known:
                try:
                    new[name] = plain(s.book, body, Settled(s.names, known), rule=name)
                except Waiting as e:
                    waits[name] = e.args[0]
        if not new:
            for name in waits:
                ring = [name]
                while waits[ring[-1]] not in ring and waits[ring[-1]] in waits:
                    ring.append(waits[ring[-1]])
                if waits[ring[-1]] == name and name == min(ring, key=s.names.index):
                    rings.append(tuple(ring))
                    new.update({one: Fault('knot', one) for one in ring})
        known.update(new)
    return {name: known[name] for name, _ in s.cells}, tuple(sorted(rings, key=lambda ring: s.names.index(ring[0])))


if __name__ == '__main__':
    unittest.main()
