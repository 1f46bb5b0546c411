"""Composed clauses: promise [39], and [13] across cells."""

import unittest

import numberrules
from manycells import CELLS, cells_sheet, dice, filled, inputs_in, logged_cells
from runlore.boxes import Box
from runlore.composing import composed
from runlore.errors import NoCell, TooBig
from runlore.kindsets import Kinds
from runlore.sheets import Sheet
from runlore.terms import Built, Literal, Shifted, Whole
from runlore.treetexts import read_expression as text
from runlore.trees import Book
from runlore.values import Fault
from runlore.watcher import watched

I, K = ('i',), ('k',)
READ_I, READ_K = ('read', 'i', True), ('read', 'k', True)


def sheet_of(*cells, inputs=('i', 'k'), book=Book(())):
    """A sheet of cells that are given as name, text, name, text .."""
    return Sheet(book, inputs, tuple(zip(cells[::2], [text(body) for body in cells[1::2]])))


def kind(place, word, yes=True):
    return ('kind', place, word, yes)


def nested(body, many):
    for _ in range(many):
        body = f'( tuple {body} )'
    return body


class ExampleTest(unittest.TestCase):
    def test_document(self):
        b = ('b', text('( plus ( read i ) 1 )'))
        s = Sheet(Book(()), ('i', 'k'), (b, ('c', text('( if ( most ( read b ) 0 ( read k ) ) ( read b ) 0 )'))))
        c = composed(s, 'c', {'i': 4, 'k': 9})
        self.assertEqual(c.notes, (
            ('read', 'i', True), ('kind', ('i',), 'integer', True), ('read', 'k', True),
            ('kind', ('k',), 'integer', True), ('tie', ('i',), ('k',), -1, True)))
        self.assertEqual(str(c.result), '@i+1')


class ComposedTest(unittest.TestCase):
    def test_cells_that_read_inputs_alone(self):
        s = sheet_of('c', '( if ( most ( read i ) 0 ( read k ) ) ( read k ) ( tuple ( read i ) ) )')
        for given in ({'i': 1, 'k': 2}, {'i': 2, 'k': 1}, {'i': 'a', 'k': 1}):
            self.assertEqual(composed(s, 'c', given), watched(s, 'c', given))
        self.assertEqual(composed(s, 'c', {'i': 2}), watched(s, 'c', {'i': 2, 'k': Fault('read')}))

    def test_inputs_that_are_lacking_or_have_a_fault(self):
        s = sheet_of('b', '( plus ( read i ) 1 )', 'c', '( tuple ( read b ) ( read k ) )')
        for given in ({'k': 1}, {'k': 1, 'i': Fault('bad')}, {}):
            c = composed(s, 'c', given)
            self.assertEqual((c.notes, c.result), ((('read', 'i', False),), Fault('read')))
            self.assertEqual((c.result.rule, c.result.path), ('c', (1, 0)))
        self.assertEqual(composed(s, 'c', {'i': 1}).notes, (READ_I, kind(I, 'integer'), ('read', 'k', False)))

    def test_a_cell_that_is_read_twice_is_run_once(self):
        s = sheet_of('b', '( if ( most ( read i ) 0 3 ) ( read i ) ( read k ) )', 'c', '( tuple ( read b ) ( read b ) ( read i ) )')
        c = composed(s, 'c', {'i': 5, 'k': 'a'})
        self.assertEqual(c.notes, (READ_I, kind(I, 'integer'), ('tie', I, None, 3, False), READ_K))
        self.assertEqual(c.result, Built((Whole(K), Whole(K), Shifted(I, 0))))
        d = sheet_of('b', '( read i )', 'd', '( read b )', 'c', '( tuple ( read d ) ( read b ) ( read i ) )')
        self.assertEqual(composed(d, 'c', {'i': 5}).notes, (READ_I,))

    def test_glances_at_what_a_cell_made_are_decided(self):
        s = sheet_of('b', "( tuple ( read i ) 'red ( tuple 1 2 ) )", 'c', (
            "( if ( both ( is tuple ( read b ) ) ( sized ( read b ) 3 ) ) ( if ( alike ( part ( read b ) 1 ) 'red ) "
            "( join ( read b ) ( part ( read b ) 2 ) ) 1 ) 2 )"))
        c = composed(s, 'c', {'i': ()})
        self.assertEqual((c.notes, str(c.result)), ((READ_I,), "( @i 'red ( 1 2 ) 1 2 )"))
        for body, result in (('( if ( sized ( read b ) 2 ) 1 2 )', '2'), ('( if ( is atom ( read b ) ) 1 2 )', '2'),
                             ('( plus ( read b ) 1 )', 'fault kind'), ('( part ( read b ) 3 )', 'fault part'),
                             ('( fold n 0 z ( read b ) ( plus n 1 ) )', '3'), ('( reach ( part ( read b ) 1 ) )', 'fault name'),
                             ("( if ( alike ( read b ) 'red ) 1 2 )", 'fault kind'),
                             ('( pick z ( read b ) ( is tuple z ) )', '( ( 1 2 ) )')):
            c = composed(s.rewritten('c', text(body)), 'c', {'i': 5})
            self.assertEqual(str(c.result), result, body)
            self.assertEqual(c.notes[0], READ_I)

    def test_results_are_shifted_on(self):
        s = sheet_of('a', '( plus ( read i ) 2 )', 'b', '( plus ( read a ) -5 )', 'c', '( if ( most ( read b ) 1 ( read a ) ) ( read b ) 0 )')
        c = composed(s, 'c', {'i': 4})
        # Ties between what differs by a fixed number are decided.
        self.assertEqual((c.notes, c.result), ((READ_I, kind(I, 'integer')), Shifted(I, -3)))

    def test_reading_a_cell_is_no_note(self):
        s = sheet_of('b', '( fail bad )', 'c', '( read b )', 'd', '5', 'e', '( read d )')
        self.assertEqual(composed(s, 'c', {}).notes, ())
        c = composed(s, 'c', {'i': 1})
        self.assertEqual((c.result, c.result.rule, c.result.path), (Fault('read'), 'c', ()))
        self.assertEqual(composed(s, 'b', {}).result, Fault('bad'))
        self.assertEqual((composed(s, 'e', {}).notes, composed(s, 'e', {}).result), ((), Literal(5)))

    def test_rings_of_one_cell(self):
        s = sheet_of('c', '( if ( is atom ( read i ) ) ( read c ) 1 )', 'd', '( tuple ( read c ) )')
        c = composed(s, 'c', {'i': 'a'})
        self.assertEqual(c.notes, (READ_I, kind(I, 'atom')))
        self.assertEqual((c.result.word, c.result.rule), ('knot', 'c'))
        self.assertEqual(composed(s, 'd', {'i': 'a'}).result, Fault('read'))
        self.assertEqual(composed(s, 'd', {'i': 4}).result, Built((Literal(1),)))

    def test_rings_of_more_cells(self):
        s = sheet_of('a', '( if ( most ( read i ) 0 0 ) ( read b ) 1 )', 'b', '( tuple ( read k ) ( read c ) )', 'c', '( read a )',
                     'e', '( if ( is atom ( read k ) ) ( read b ) ( read i ) )')
        for cell in 'abc':
            c = composed(s, cell, {'i': 0, 'k': 5})
            self.assertEqual((c.result.word, c.result.rule), ('knot', cell))
            self.assertEqual({note[1] for note in c.notes if note[0] == 'read'}, {'i', 'k'})
        self.assertEqual(composed(s, 'b', {'i': 0, 'k': 5}).notes, (
            READ_K, READ_I, kind(I, 'integer'), ('tie', I, None, 0, True)))
        self.assertEqual(str(composed(s, 'b', {'i': 1, 'k': 5}).result), '( @k 1 )')
        # A reader beside the ring goes on with a fault.
        c = composed(s, 'e', {'i': 0, 'k': 'x'})
        self.assertEqual((c.result.word, c.result.rule, c.result.path), ('read', 'e', (2,)))
        self.assertEqual(composed(s, 'e', {'i': 0, 'k': 5}).result, Whole(I))

    def test_a_ring_inside_of_which_a_cell_reads_another_ring(self):
        s = sheet_of('a', '( tuple ( read b ) )', 'b', '( if ( is integer ( read i ) ) ( read c ) ( read a ) )', 'c', '( read c )')
        self.assertEqual([composed(s, cell, {'i': 1}).result.word for cell in 'abc'], ['read', 'read', 'knot'])
        self.assertEqual([composed(s, cell, {'i': 'x'}).result.word for cell in 'abc'], ['knot', 'knot', 'knot'])

    def test_reach_into_cells(self):
        s = sheet_of('b', '( plus ( read i ) 1 )', 'c', '( reach ( read k ) )')
        c = composed(s, 'c', {'i': 4, 'k': 'b'})
        self.assertEqual(c.notes, (
            READ_K, kind(K, 'atom'), ('alike', K, 'i', False), ('alike', K, 'k', False), ('alike', K, 'b', True),
            READ_I, kind(I, 'integer')))
        self.assertEqual(c.result, Shifted(I, 1))
        self.assertEqual(composed(s, 'c', {'k': 'k'}).result, Literal('k'))
        self.assertEqual(composed(s, 'c', {'i': 4, 'k': 'c'}).result, Fault('knot'))
        self.assertEqual(composed(s, 'c', {'i': 4, 'k': 'q'}).result, Fault('name'))
        self.assertEqual(composed(s, 'c', {'i': 'a', 'k': 'b'}).result, Fault('read'))

    def test_results_are_written_in_the_region(self):
        s = sheet_of('b', '( read k )', 'c', '( if ( most ( read i ) 1 ( read b ) ) ( if ( most ( read b ) -1 ( read i ) ) ( read b ) 0 ) 1 )')
        c = composed(s, 'c', {'i': 4, 'k': 5})
        self.assertEqual(c.result, Shifted(I, 1))
        size = sheet_of('b', '( read i )', 'c', '( if ( sized ( read b ) 2 ) ( tuple ( read b ) ) 0 )')
        self.assertEqual(str(composed(size, 'c', {'i': (1, 'a')}).result), '( ( @i.0 @i.1 ) )')

    def test_weights_count_before_results_are_written(self):
        size = sheet_of('b', '( read i )', 'c', '( if ( sized ( read b ) 4 ) ( tuple ( read b ) ( read b ) ) 0 )')
        given = {'i': (1, 2, 3, 4)}
        self.assertEqual(composed(size, 'c', given, most=3).result.weight, 11)
        with self.assertRaises(TooBig) as caught:
            composed(size, 'c', given, most=2)
        self.assertEqual(caught.exception.most, 2)

    def test_exactly_most_and_one_more(self):
        cells = ['a', '( tuple 1 1 1 1 1 1 1 )']
        for name, other in (('b', 'a'), ('d', 'b'), ('e', 'd')):
            cells += [name, '( tuple ' + f'( read {other} ) ' * 7 + ')']
        s = sheet_of(*cells, 'f', '( part ( part ( part ( read e ) 0 ) 1 ) 2 )', 'g', '( tuple ( read e ) )',
                     'h', '( join ( tuple ( read e ) 1 ) ( tuple ( read d ) ( read d ) ) )')
        weights = [1 + 7]
        for _ in range(3):
            weights.append(1 + 7 * weights[-1])
        self.assertEqual(weights, [8, 57, 400, 2801])
        for cell, weight in zip('abde', weights):
            self.assertEqual(composed(s, cell, {}, most=weight).result.weight, weight)
            with self.assertRaises(TooBig) as caught:
                composed(sheet=s, cell=cell, given={}, most=weight - 1)
            self.assertEqual(caught.exception.most, weight - 1)
        # What is inside of heavier cells may be light.
        self.assertEqual(composed(s, 'f', {}, most=8).result.weight, 8)
        self.assertEqual(composed(s, 'g', {}).result.weight, 2802)
        self.assertEqual(composed(s, 'h', {}).result.weight, 3603)
        big = s.rewritten('h', text('( tuple ( read e ) ( read d ) ( read d ) ( read d ) ( read b ) ( read a ) ( read a ) 1 1 1 1 1 1 1 1 1 1 1 1 1 1 1 1 1 )'))
        weight = 1 + 2801 + 1200 + 57 + 16 + 17
        self.assertEqual(weight, 4092)
        self.assertEqual(composed(big, 'h', {}).result.weight, weight)
        for many, fits in ((4, True), (5, False)):
            more = big.rewritten('h', ('tuple', big.body('h')[1] + (('int', 1),) * many))
            if fits:
                self.assertEqual(composed(more, 'h', {}).result.weight, 4096)
            else:
                with self.assertRaises(TooBig) as caught:
                    composed(more, 'h', {})
                self.assertEqual(caught.exception.most, 4096)
                self.assertEqual(composed(more, 'h', {}, most=10000).result.weight, 4097)

    def test_faults_have_no_weight(self):
        s = sheet_of('c', '( fail bad )')
        self.assertEqual(composed(s, 'c', {}, most=1).result, Fault('bad'))
        self.assertEqual(composed(s.rewritten('c', text('( tuple )')), 'c', {}, most=1).result, Built(()))
        with self.assertRaises(TooBig):
            composed(s.rewritten('c', text('( tuple 1 )')), 'c', {}, most=1)

    def test_lacking_cells_and_inputs(self):
        s = sheet_of('b', '( tuple 1 2 )', 'c', '( read i )')
        for cell, given, name in (('i', {}, 'i'), ('q', {'z': 1}, 'q'), ('c', {'z': 1, 'b': 1, 'i': 1}, 'b'), ('b', {'q': 1}, 'q')):
            with self.assertRaises(NoCell) as caught:
                composed(s, cell, given, most=1)
            self.assertEqual(caught.exception.name, name)
        with self.assertRaises(TypeError):
            composed(s, 'c', {}, 5)


class WorkTest(unittest.TestCase):
    """Each cell has its own work; what is read weighs 1 and does not nest."""

    def test_nesting(self):
        s = sheet_of('b', nested('( read i )', 10), 'c', nested('( read b )', 12), 'd', nested('( read c )', 12))
        deep = composed(s, 'd', {'i': 1})
        self.assertEqual(deep.result.weight, 35)
        self.assertEqual(deep.notes, (READ_I,))
        one = Sheet(Book(()), ('i',), (('b', nested_tree(('read', 'i'), 30)), ('c', nested_tree(('read', 'b'), 30))))
        self.assertEqual(composed(one, 'c', {'i': 1}).result.weight, 61)
        worse = one.rewritten('c', nested_tree(('read', 'b'), 31))
        c = composed(worse, 'c', {'i': 1})
        self.assertEqual((c.result, c.result.rule, c.result.path), (Fault('long'), 'c', ()))

    def test_work(self):
        """Making a tuple of n integers is work n + 1; what another cell made weighs 1."""
        loop = '( fold a ( tuple ) p ( read i ) ( fold q a r ( read i ) ( join q ( tuple 1 ) ) ) )'
        s = sheet_of('b', loop, 'c', '( tuple ( read b ) ( read b ) )', 'd', '( fold n 0 z ( read b ) ( plus n 1 ) )')
        given = {'i': tuple(range(7))}
        self.assertEqual(composed(s, 'b', given).result.weight, 50)
        self.assertEqual(composed(s, 'd', given).result, Literal(49))
        self.assertEqual(composed(s, 'c', given).result.weight, 101)
        long = {'i': tuple(range(12))}
        for cell, word in (('b', 'long'), ('c', 'read'), ('d', 'read')):
            self.assertEqual(composed(s, cell, long).result, Fault(word))
            self.assertEqual(s.answer(cell, long), Fault(word))

    def test_the_values_of_great_sheets(self):
        """Values of tens of thousands of integers."""
        def forty(item):
            return '( tuple ' + ' '.join([item] * 40) + ' )'

        s = sheet_of('b', forty('1'), 'c', forty('( read b )'), 'd', forty('( read c )'), 'e', '( part ( part ( read d ) 3 ) 2 )')
        self.assertEqual(composed(s, 'e', {}).result.weight, 41)
        with self.assertRaises(TooBig):
            composed(s, 'd', {})
        self.assertEqual(len(s.answer('d', {})), 40)

    def test_deep_values(self):
        cells = [('a', nested_tree(('read', 'i'), 30))]
        for name, before in zip('bdefgh', 'abdefg'):
            cells.append((name, nested_tree(('read', before), 28)))
        s = Sheet(Book(()), ('i', 'k'), tuple(cells))
        c = composed(s, 'h', {'i': 7})
        self.assertEqual(c.result.weight, 30 + 6 * 28 + 1)
        self.assertEqual(c({'i': 7}), s.answer('h', {'i': 7}))


def nested_tree(tree, many):
    for _ in range(many):
        tree = ('tuple', (tree,))
    return tree


class SearchTest(unittest.TestCase):
    """Composed clauses against the glances of all plain runs: the region has just those inputs that glance alike."""

    def check(self, sheet, cells, pool, names):
        inside = 0
        for cell in cells:
            for given in pool[:4]:
                clause = composed(sheet, cell, given)
                log, answer = logged_cells(sheet, cell, given)
                self.assertEqual(answer, sheet.answer(cell, given))
                for other in pool:
                    told, value = logged_cells(sheet, cell, other)
                    whole = filled(other, names)
                    self.assertEqual(whole in clause, told == log)
                    if told == log:
                        self.assertEqual(clause(whole), value)
                        inside += 1
        return inside

    def test_rings_and_faults(self):
        inside = 0
        for seed in range(80):
            chance = dice(seed)
            pool = [inputs_in(chance, Box(2, 2)) for _ in range(15)]
            inside += self.check(cells_sheet(seed), CELLS, pool, ('x', 'y'))
        self.assertGreater(inside, 2000)

    def test_numbers(self):
        inside = 0
        for seed in range(60):
            chance = dice(seed)
            pool = [numberrules.number_inputs(chance, most=2) for _ in range(15)]
            inside += self.check(numberrules.numbers_sheet(seed), CELLS, pool, numberrules.INPUTS)
        self.assertGreater(inside, 2000)

    def test_written_results_of_equal_regions(self):
        """Two inputs of one clause give equal clauses, whatever was asked in between."""
        for seed in range(40):
            sheet = numberrules.numbers_sheet(seed)
            chance = dice(seed)
            for cell in CELLS:
                given = numberrules.number_inputs(chance)
                clause = composed(sheet, cell, given)
                other = {**given, **{name: value for name, value in clause.region.least.items() if name in given}}
                self.assertEqual(composed(sheet, cell, other), clause)
                self.assertEqual(composed(sheet, cell, given), clause)


class KindTest(unittest.TestCase):
    def test_kinds_of_a_composed_region(self):
        s = sheet_of('b', '( read i )', 'c', '( if ( is tuple ( read b ) ) 1 2 )')
        self.assertEqual(composed(s, 'c', {'i': 1}).region.kinds(I), Kinds.of('integer') | Kinds.of('atom'))
        self.assertEqual(composed(s, 'c', {'i': ()}).region.kinds(I), Kinds.of('tuple'))


if __name__ == '__main__':
    unittest.main()
