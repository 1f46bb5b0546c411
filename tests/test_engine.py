"""Engines: promises [46] to [49]."""

import unittest

from enginemodel import Model
from manycells import CELLS, INPUTS, cells_sheet, dice, inputs_in, integer_places, value_in
from reference import Writer
from runlore.boxes import Box
from runlore.clauses import Clause
from runlore.engine import Engine
from runlore.errors import NoBook, NoCell, NoPlace, NoSheet
from runlore.lore import Lore
from runlore.sheets import Sheet
from runlore.tables import table
from runlore.terms import Literal
from runlore.treetexts import read_expression as text
from runlore.trees import Book
from runlore.values import Fault
from runlore.watcher import watched

X, Y = ('x',), ('y',)


def sheet_of(*cells, inputs=('x', 'y'), book=Book(())):
    return Sheet(book, inputs, tuple(zip(cells[::2], [text(body) for body in cells[1::2]])))


CHAIN = sheet_of('a', '( plus ( read x ) 1 )', 'b', '( if ( most ( read a ) 0 ( read y ) ) ( read a ) 0 )',
                 'c', '( tuple ( read b ) ( read a ) )')
RING = sheet_of('a', '( if ( most ( read x ) 0 0 ) ( read b ) 1 )', 'b', '( read c )', 'c', '( read a )', 'e', '( tuple ( read b ) )')


def results(engine, cell):
    return [str(clause.result) for clause in engine.lore(cell)]


def runs(engine):
    return [(cell, clause and str(clause.result)) for cell, clause in engine.runs()]


class EngineTest(unittest.TestCase):
    def test_a_new_engine(self):
        engine = Engine(sheet=CHAIN, given={'y': 3})
        self.assertEqual((engine.sheet, engine.given, engine.depth, len(engine), engine.runs()), (CHAIN, {'y': 3}, 0, 0, []))
        self.assertEqual([engine.lore(cell) for cell in 'abc'], [[], [], []])

    def test_given_is_copied(self):
        given = {'x': 1}
        engine = Engine(CHAIN, given)
        given['x'] = 2
        self.assertEqual(engine.given, {'x': 1})
        engine.given['x'] = 3
        engine.given.clear()
        self.assertEqual(engine.given, {'x': 1})
        for found in (engine.runs(), engine.lore('a')):
            found.append(5)
        self.assertEqual((engine.runs(), engine.lore('a')), ([], []))

    def test_names_that_are_no_inputs(self):
        for given, name in (({'q': 1, 'c': 2, 'x': 3}, 'c'), ({'z': 1}, 'z')):
            with self.assertRaises(NoCell) as caught:
                Engine(CHAIN, given)
            self.assertEqual(caught.exception.name, name)
        engine = Engine(CHAIN, {})
        for call in (engine.ask, engine.lore):
            for name in ('x', 'q'):
                with self.assertRaises(NoCell) as caught:
                    call(name)
                self.assertEqual(caught.exception.name, name)

    def test_equal_engines(self):
        one, other = Engine(CHAIN, {'x': 1, 'y': 2}), Engine(CHAIN, {'y': 2, 'x': 1})
        self.assertEqual(one, other)
        one.ask('a')
        self.assertNotEqual(one, other)
        other.ask('b')
        self.assertNotEqual(one, other)
        one.ask('b')
        # What was run, which deeds stand and what is kept do not count.
        self.assertEqual(one, other)
        one.edit('x', 1)
        self.assertEqual(one, other)
        one.edit('x', 5)
        self.assertNotEqual(one, other)
        self.assertNotEqual(Engine(CHAIN, {}), Engine(RING, {}))
        self.assertNotEqual(Engine(CHAIN, {}), Engine(CHAIN, {'x': 1}))
        self.assertIs(Engine(CHAIN, {}) == CHAIN, False)
        self.assertIs(Engine(CHAIN, {}) == Engine(CHAIN, {}), True)


class AskTest(unittest.TestCase):
    def test_runs_and_walks(self):
        engine = Engine(CHAIN, {'x': 1, 'y': 5})
        self.assertEqual(engine.ask('c'), (2, 2))
        # b is asked by c, a by b; they end in this order.
        self.assertEqual(runs(engine), [('a', '@x+1'), ('b', '@a+0'), ('c', '( @b @a )')])
        engine.edit('x', 3)
        self.assertEqual((engine.ask('c'), len(engine.runs())), ((4, 4), 3))
        engine.edit('y', 0)
        self.assertEqual(engine.ask('c'), (0, 4))
        self.assertEqual(runs(engine)[3:], [('b', '0')])
        self.assertEqual((results(engine, 'b'), len(engine.lore('a'))), (['@a+0', '0'], 1))

    def test_lacking_inputs(self):
        engine = Engine(CHAIN, {'x': 1})
        self.assertEqual(engine.ask('b'), Fault('read'))
        self.assertEqual((engine.ask('c'), engine.ask('a')), (Fault('read'), 2))
        self.assertEqual([clause.reads for _, clause in engine.runs()], [
            (('x', True),), (('a', True), ('y', False)), (('b', False),)])
        self.assertEqual(Engine(CHAIN, {}).ask('c'), Fault('read'))
        self.assertEqual((Engine(CHAIN, {}).ask('c').rule, Engine(CHAIN, {}).ask('c').path), ('c', (1, 0)))

    def test_clauses_are_those_of_watching_runs(self):
        engine = Engine(CHAIN, {'x': 1, 'y': 5})
        engine.ask('c')
        for cell, clause in engine.runs():
            self.assertEqual(clause, watched(CHAIN, cell, {'x': 1, 'y': 5, 'a': 2, 'b': 2}))
            self.assertEqual(engine.lore(cell), [clause])

    def test_answers_are_kept_until_a_deed(self):
        engine = Engine(CHAIN, {'x': 1, 'y': 5})
        engine.ask('a')
        engine.forget()
        self.assertEqual((engine.ask('a'), len(engine.runs()), engine.lore('a')), (2, 1, []))
        self.assertEqual((engine.ask('b'), runs(engine)), (2, [('a', '@x+1'), ('b', '@a+0')]))
        for deed in (lambda: engine.edit('x', 1), lambda: engine.clear('y'), lambda: engine.undo(), lambda: engine.edit_part(X, 1),
                     lambda: engine.rewrite('c', ('int', 1))):
            engine.take_in('a', ())
            for name in 'abc':
                engine.ask(name)
            before = len(engine.runs())
            while engine.forget() is not None:
                pass
            engine.ask('a')
            self.assertEqual(len(engine.runs()), before)
            deed()
            engine.ask('a')
            self.assertEqual(len(engine.runs()), before + 1)

    def test_an_error_keeps_answers(self):
        engine = Engine(CHAIN, {'x': 1, 'y': 5})
        engine.ask('a')
        engine.forget()
        for call in (lambda: engine.edit('a', 1), lambda: engine.clear('q'), lambda: engine.edit_part(('x', 0), 1), lambda: engine.rewrite('x', ('int', 1)),
                     lambda: engine.rewrite('a', ('name', 'q')), lambda: engine.redefine(('f', (), None, ('int', 1))), lambda: engine.ask('q')):
            with self.assertRaises((NoCell, NoPlace, NoSheet)):
                call()
        self.assertEqual((engine.ask('a'), len(engine.runs()), len(engine), engine.given), (2, 1, 0, {'x': 1, 'y': 5}))

    def test_a_walk_that_leaves_the_tree(self):
        engine = Engine(CHAIN, {'x': 1, 'y': 5})
        engine.ask('b')
        engine.edit('y', 'a')
        self.assertEqual(engine.ask('b'), Fault('kind'))
        self.assertEqual(runs(engine)[2:], [('b', 'fault kind')])

    def test_cells_that_made_tuples(self):
        s = sheet_of('a', '( tuple ( read x ) ( tuple ( read y ) ) )', 'b', '( join ( read a ) ( part ( read a ) 1 ) )')
        engine = Engine(s, {'x': 'red', 'y': 2})
        self.assertEqual(engine.ask('b'), ('red', (2,), 2))
        self.assertEqual(str(engine.lore('b')[0].result), '( @a.0 ( @a.1.0 ) @a.1.0 )')

    def test_rings_asked_from_each_of_their_cells(self):
        for first, order in (('a', 'cba'), ('b', 'acb'), ('c', 'bac')):
            engine = Engine(RING, {'x': 0})
            answer = engine.ask(first)
            self.assertEqual((answer.word, answer.rule), ('knot', first))
            # All cells of the ring have their answers at once; those asked later come first.
            self.assertEqual(engine.runs(), [(cell, None) for cell in order])
            self.assertEqual([engine.ask(cell).rule for cell in 'abc'], ['a', 'b', 'c'])
            self.assertEqual((len(engine.runs()), [engine.lore(cell) for cell in 'abc']), (3, [[], [], []]))
            self.assertEqual((engine.ask('e'), runs(engine)[3:]), (Fault('read'), [('e', 'fault read')]))

    def test_a_reader_beside_a_ring(self):
        engine = Engine(RING, {'x': 0})
        self.assertEqual(engine.ask('e'), Fault('read'))
        self.assertEqual(runs(engine), [('a', None), ('c', None), ('b', None), ('e', 'fault read')])
        engine.edit('x', 1)
        self.assertEqual(engine.ask('e'), (1,))
        self.assertEqual(runs(engine)[4:], [('a', '1'), ('c', '@a'), ('b', '@c'), ('e', '( @b )')])
        # A ring that is met in walks is no run.
        engine.edit('x', 0)
        self.assertEqual(engine.ask('e'), Fault('read'))
        self.assertEqual(runs(engine)[8:], [('a', None)])
        self.assertEqual((engine.ask('c').word, len(engine.runs()), len(engine.lore('c'))), ('knot', 9, 1))

    def test_a_ring_of_one_cell(self):
        engine = Engine(sheet_of('c', '( if ( is atom ( read x ) ) ( read c ) ( read x ) )'), {'x': 'a'})
        self.assertEqual((engine.ask('c'), engine.runs()), (Fault('knot'), [('c', None)]))
        engine.edit('x', 5)
        self.assertEqual((engine.ask('c'), runs(engine)[1:]), (5, [('c', '@x')]))

    def test_reach(self):
        s = sheet_of('a', '( plus ( read x ) 1 )', 'b', '( reach ( read y ) )')
        engine = Engine(s, {'x': 1, 'y': 'a'})
        for y, answer in (('a', 2), ('x', 1), ('b', Fault('knot')), ('q', Fault('name')), (5, Fault('kind')), ('a', 2)):
            engine.edit('y', y)
            self.assertEqual(engine.ask('b'), answer)
        self.assertEqual([cell for cell, _ in engine.runs()], ['a', 'b', 'b', 'b', 'b', 'b'])

    def test_answers_do_not_depend_on_the_order_of_asks(self):
        for seed in range(60):
            sheet, chance = cells_sheet(seed), dice(seed)
            given = inputs_in(chance, Box(2, 2))
            want = sheet.answers(given)
            for order in (CELLS, CELLS[::-1], CELLS[1:] + CELLS[:1]):
                engine = Engine(sheet, given)
                self.assertEqual({cell: engine.ask(cell) for cell in order}, want)
                self.assertEqual({cell: engine.ask(cell) for cell in CELLS}, want)

    def test_the_work_of_great_values(self):
        """Each cell has its own work: at its bound, and one more."""
        s = sheet_of('a', '( fold n 0 z ( read x ) ( fold m n w ( read y ) ( plus m 1 ) ) )', 'b', '( plus ( read a ) 1 )')
        # 64 steps of 1 + 63 more each are 4,096.
        engine = Engine(s, {'x': tuple(range(64)), 'y': tuple(range(63))})
        self.assertEqual(engine.ask('b'), 64 * 63 + 1)
        self.assertEqual(len(engine.lore('a')), 1)
        engine.edit('x', tuple(range(65)))
        self.assertEqual((engine.ask('a'), engine.ask('b')), (Fault('long'), Fault('read')))

    def test_long_runs(self):
        """A run of an engine notes at most 1,000 times."""
        s = sheet_of('a', '( fold n 0 z ( read x ) ( if ( is integer z ) ( plus n 1 ) n ) )')
        values = tuple(at if at % 3 else 'a' for at in range(990))
        engine = Engine(s, {'x': values})
        self.assertEqual(engine.ask('a'), 660)
        self.assertEqual(len(engine.lore('a')[0].notes), 993)
        engine.edit_part(('x', 5), 7)
        self.assertEqual((engine.ask('a'), len(engine.runs())), (660, 1))
        engine.edit_part(('x', 989), 'b')
        self.assertEqual((engine.ask('a'), len(engine.runs())), (659, 2))


class DeedTest(unittest.TestCase):
    def test_edits_and_their_undoing(self):
        engine = Engine(CHAIN, {'x': (1, ('a', 2))})
        steps = (
            (lambda: engine.edit('y', 'red'), {'x': (1, ('a', 2)), 'y': 'red'}),
            (lambda: engine.edit(name='x', value=5), {'x': 5, 'y': 'red'}),
            (lambda: engine.clear('y'), {'x': 5}),
            (lambda: engine.clear(name='y'), {'x': 5}),
            (lambda: engine.edit_part(('y',), (1, 2)), {'x': 5, 'y': (1, 2)}),
            (lambda: engine.edit_part(place=('y', 1), value=(7,)), {'x': 5, 'y': (1, (7,))}),
            (lambda: engine.edit_part(('y', 1, 0), 'blue'), {'x': 5, 'y': (1, ('blue',))}),
            (lambda: engine.edit('x', 5), {'x': 5, 'y': (1, ('blue',))}))
        stages = [engine.given]
        for many, (deed, given) in enumerate(steps, 1):
            self.assertIsNone(deed())
            self.assertEqual((engine.given, len(engine)), (given, many))
            stages.append(given)
        for many in range(len(steps), 0, -1):
            self.assertEqual((engine.given, len(engine)), (stages[many], many))
            self.assertIs(engine.undo(), True)
        self.assertEqual((engine.given, len(engine)), ({'x': (1, ('a', 2))}, 0))
        for _ in range(2):
            self.assertIs(engine.undo(), False)
            self.assertEqual((engine.given, len(engine)), (stages[0], 0))

    def test_wrong_edits(self):
        engine = Engine(CHAIN, {'x': (1, 'a')})
        for call, name in ((lambda: engine.edit('a', 1), 'a'), (lambda: engine.clear('a'), 'a'), (lambda: engine.edit('q', 1), 'q'),
                           (lambda: engine.clear('q'), 'q'), (lambda: engine.edit_part(('a', 0), 1), 'a'), (lambda: engine.edit_part(('q',), 1), 'q')):
            with self.assertRaises(NoCell) as caught:
                call()
            self.assertEqual(caught.exception.name, name)
        for place in (('x', 2), ('x', 0, 0), ('x', 1, 0), ('y', 0), ('x', 2, 1)):
            with self.assertRaises(NoPlace) as caught:
                engine.edit_part(place, 1)
            self.assertEqual(caught.exception.place, place)
        self.assertEqual((engine.given, len(engine)), ({'x': (1, 'a')}, 0))

    def test_rewrite(self):
        engine = Engine(CHAIN, {'x': 1, 'y': 5})
        engine.ask('c')
        engine.edit('y', 0)
        engine.ask('c')
        self.assertEqual(results(engine, 'b'), ['@a+0', '0'])
        # One of two clauses is still that of the new text.
        self.assertIsNone(engine.rewrite(cell='b', body=text('( if ( most ( read a ) 0 ( read y ) ) ( read a ) 7 )')))
        self.assertEqual((results(engine, 'b'), results(engine, 'a'), len(engine)), (['@a+0'], ['@x+1'], 2))
        self.assertEqual((engine.ask('b'), results(engine, 'b')), (7, ['@a+0', '7']))
        self.assertEqual(engine.sheet.body('b')[3], ('int', 7))
        self.assertIs(engine.undo(), True)
        self.assertEqual((engine.sheet, results(engine, 'b')), (CHAIN, ['@a+0', '0']))
        self.assertEqual(engine.ask('b'), 0)

    def test_a_clause_that_stays_takes_the_new_place_of_its_fault(self):
        engine = Engine(sheet_of('a', '( plus ( read x ) 1 )'), {'x': 'a'})
        engine.ask('a')
        self.assertEqual(engine.lore('a')[0].result.path, ())
        engine.rewrite('a', text('( tuple ( plus ( read x ) 1 ) )'))
        self.assertEqual((len(engine.lore('a')), engine.lore('a')[0].result.path, engine.ask('a').path), (1, (1, 0), (1, 0)))
        self.assertEqual(len(engine.runs()), 1)
        engine.undo()
        self.assertEqual((engine.lore('a')[0].result.path, engine.ask('a').path), ((), ()))

    def test_wrong_rewriting(self):
        engine = Engine(CHAIN, {})
        for cell, body, error, told in (
                ('x', ('int', 1), NoCell, ('x',)), ('q', ('name', 'z'), NoCell, ('q',)), ('b', ('name', 'z'), NoSheet, ('unknown', 'b')),
                ('b', ('read', 'z'), NoSheet, ('read', 'b')), ('b', ('int', True), NoSheet, ('form', 'b'))):
            with self.assertRaises(error) as caught:
                engine.rewrite(cell, body)
            self.assertEqual(tuple(vars(caught.exception).values()), told)
        self.assertEqual((engine.sheet, len(engine)), (CHAIN, 0))

    def test_redefine(self):
        book = Book((('f', ('p',), None, text('( read x )')), ('g', ('p',), None, ('plus', ('name', 'p'), 2))))
        s = Sheet(book, ('x', 'y'), (
            ('a', text('( if ( is atom ( read y ) ) 1 2 )')), ('b', ('call', 'g', (('read', 'x'),))), ('c', ('call', 'f', (('int', 1),)))))
        engine = Engine(s, {'x': 4, 'y': 5})
        self.assertEqual([engine.ask(cell) for cell in 'abc'], [2, 6, 4])
        self.assertIsNone(engine.redefine(definition=('g', ('p',), None, ('plus', ('name', 'p'), 3))))
        # The clauses of all cells are looked at; one of them is no longer right.
        self.assertEqual(([len(engine.lore(cell)) for cell in 'abc'], len(engine)), ([1, 0, 1], 1))
        self.assertEqual([engine.ask(cell) for cell in 'abc'], [2, 7, 4])
        self.assertEqual(len(engine.runs()), 4)
        engine.redefine(('f', ('p',), None, ('name', 'p')))
        self.assertEqual([engine.ask(cell) for cell in 'abc'], [2, 7, 1])
        self.assertEqual((engine.undo(), engine.undo(), engine.undo()), (True, True, False))
        self.assertEqual([engine.ask(cell) for cell in 'abc'], [2, 6, 4])
        self.assertEqual((engine.sheet, len(engine.runs())), (s, 5))

    def test_wrong_redefining(self):
        book = Book((('f', ('p',), None, ('name', 'p')), ('g', ('p',), None, ('call', 'f', (('name', 'p'),)))))
        s = Sheet(book, ('x',), (('c', ('call', 'f', (('int', 1),))),))
        engine = Engine(s, {})
        for definition, error, told in (
                (('h', ('p',), None, ('name', 'z')), NoCell, ('h',)), (('c', (), None, ('int', 1)), NoCell, ('c',)),
                (('f', ('p',), None, ('name', 'z')), NoBook, ('unknown', 'f', ())), (('f', ('p', 'q'), None, ('name', 'p')), NoBook, ('arguments', 'g', ())),
                (('f', ('p',), None, ('read', 'z')), NoSheet, ('read', 'f'))):
            with self.assertRaises(error) as caught:
                engine.redefine(definition)
            self.assertEqual(tuple(vars(caught.exception).values()), told)
        alone = Engine(Sheet(Book(book.definitions[:1]), ('x',), s.cells), {})
        with self.assertRaises(NoSheet) as caught:
            alone.redefine(('f', (), None, ('int', 1)))
        self.assertEqual((caught.exception.word, caught.exception.name), ('arguments', 'c'))
        self.assertEqual((engine.sheet, len(engine), len(alone)), (s, 0, 0))

    def test_clauses_come_back_by_undo(self):
        engine = Engine(CHAIN, {'x': 1, 'y': 5})
        engine.ask('c')
        first = {cell: engine.lore(cell) for cell in 'abc'}
        engine.rewrite('a', text("( if ( is atom ( read x ) ) 'a ( read y ) )"))
        self.assertEqual((engine.lore('a'), engine.lore('b'), engine.ask('a')), ([], first['b'], 5))
        engine.rewrite('a', ('int', 3))
        self.assertEqual((engine.lore('a'), engine.ask('a')), ([], 3))
        engine.undo()
        self.assertEqual(results(engine, 'a'), ['@y'])
        engine.undo()
        self.assertEqual(engine.lore('a'), first['a'])
        # What was forgotten in between does not come back: only what the rewriting let go.
        engine.rewrite('b', text('( read a )'))
        while engine.forget() is not None:
            pass
        engine.undo()
        self.assertEqual([engine.lore(cell) for cell in 'abc'], [[], first['b'], []])

    def test_rewriting_with_the_same_text(self):
        engine = Engine(CHAIN, {'x': 1, 'y': 5})
        engine.ask('c')
        before = [engine.lore(cell) for cell in 'abc']
        engine.rewrite('b', CHAIN.body('b'))
        self.assertEqual(([engine.lore(cell) for cell in 'abc'], len(engine), engine.sheet), (before, 1, CHAIN))
        self.assertEqual((engine.ask('c'), len(engine.runs())), ((2, 2), 3))


def forgotten(engine):
    """The cells and results of all clauses, in the order in which they are forgotten."""
    found = []
    while (pair := engine.forget()) is not None:
        found.append((pair[0], str(pair[1].result)))
    return found


class UseTest(unittest.TestCase):
    def test_nothing_to_forget(self):
        engine = Engine(CHAIN, {'x': 1})
        self.assertIsNone(engine.forget())
        engine.ask('a')
        self.assertEqual(engine.forget(), ('a', watched(CHAIN, 'a', {'x': 1})))
        self.assertIsNone(engine.forget())
        self.assertEqual((engine.lore('a'), len(engine)), ([], 0))

    def test_learning_is_a_use(self):
        engine = Engine(CHAIN, {'x': 1, 'y': 5})
        engine.ask('c')
        self.assertEqual(forgotten(engine), [('a', '@x+1'), ('b', '@a+0'), ('c', '( @b @a )')])

    def test_coming_to_a_clause_is_a_use(self):
        engine = Engine(CHAIN, {'x': 1, 'y': 5})
        engine.ask('c')
        engine.edit('x', 2)
        engine.ask('a')
        self.assertEqual(forgotten(engine), [('b', '@a+0'), ('c', '( @b @a )'), ('a', '@x+1')])

    def test_a_kept_answer_is_no_use(self):
        engine = Engine(CHAIN, {'x': 1, 'y': 5})
        engine.ask('c')
        engine.ask('a')
        engine.lore('a')
        self.assertEqual(forgotten(engine)[0], ('a', '@x+1'))

    def test_a_walk_that_a_ring_ends_is_no_use(self):
        engine = Engine(RING, {'x': 1})
        engine.ask('c')
        engine.edit('x', 0)
        engine.ask('a')
        self.assertEqual(forgotten(engine), [('a', '1'), ('c', '@a')])

    def test_taking_in_is_a_use(self):
        engine = Engine(CHAIN, {'x': 1, 'y': 5})
        engine.ask('c')
        kind = watched(CHAIN, 'a', {'x': 'a'})
        self.assertEqual(engine.take_in('a', (watched(CHAIN, 'a', {'x': 1}), kind)), 1)
        # What was there already is not taken in.
        self.assertEqual(forgotten(engine), [('a', '@x+1'), ('b', '@a+0'), ('c', '( @b @a )'), ('a', 'fault kind')])

    def test_clauses_that_stay_keep_their_order(self):
        engine = Engine(CHAIN, {'x': 1, 'y': 5})
        engine.ask('c')
        engine.edit('x', 'a')
        engine.ask('a')
        engine.rewrite('a', text('( plus ( plus ( read x ) 0 ) 1 )'))
        engine.rewrite('b', text('( if ( most ( read a ) 0 ( read y ) ) ( read a ) 1 )'))
        self.assertEqual(forgotten(engine), [('a', '@x+1'), ('b', '@a+0'), ('c', '( @b @a )'), ('a', 'fault kind')])

    def test_clauses_that_come_back_were_used_last(self):
        engine = Engine(CHAIN, {'x': 1, 'y': 5})
        engine.ask('c')
        for x in ('a', 1):
            engine.edit('x', x)
            engine.ask('a')
        engine.clear('x')
        engine.ask('a')
        engine.rewrite('a', ('int', 3))
        self.assertEqual(engine.lore('a'), [])
        engine.ask('b')
        engine.undo()
        # In the order of the tree, whatever it was before.
        self.assertEqual(forgotten(engine), [
            ('c', '( @b @a )'), ('b', '@a+0'), ('a', '@x+1'), ('a', 'fault kind'), ('a', 'fault read')])

    def test_clauses_of_several_cells_come_back_in_the_order_of_the_cells(self):
        book = Book((('g', ('p',), None, ('plus', ('name', 'p'), 2)),))
        s = Sheet(book, ('x',), (('a', ('call', 'g', (('read', 'b'),))), ('b', ('call', 'g', (('read', 'x'),))), ('c', ('read', 'b'))))
        engine = Engine(s, {'x': 4})
        for cell in 'cab':
            engine.ask(cell)
        engine.redefine(('g', ('p',), None, ('name', 'p')))
        self.assertEqual([len(engine.lore(cell)) for cell in 'abc'], [0, 0, 1])
        engine.undo()
        self.assertEqual(forgotten(engine), [('c', '@b'), ('a', '@b+2'), ('b', '@x+2')])


class TakeInTest(unittest.TestCase):
    def test_clauses_that_fit(self):
        clauses = table(CHAIN, 'b', Box(1, 1))
        engine = Engine(CHAIN, {'x': 1, 'y': 5})
        self.assertEqual(engine.take_in(cell='b', clauses=list(clauses)), len(clauses))
        self.assertEqual(engine.lore('b'), list(clauses))
        self.assertEqual((engine.ask('b'), runs(engine)), (2, [('a', '@x+1')]))
        self.assertEqual((engine.take_in('b', clauses), len(engine), len(engine.runs())), (0, 0, 1))

    def test_twice_in_one_call(self):
        clause = watched(CHAIN, 'a', {'x': 1})
        engine = Engine(CHAIN, {})
        self.assertEqual((engine.take_in('a', (clause, clause)), len(engine.lore('a'))), (1, 1))
        self.assertEqual(engine.take_in('a', ()), 0)

    def test_clauses_that_do_not_fit(self):
        engine = Engine(CHAIN, {})
        right = watched(CHAIN, 'a', {'x': 1})
        for clause in (watched(CHAIN, 'b', {'a': 1, 'y': 2}), Clause(right.notes, Literal(5)), Clause(right.notes, Fault('kind')),
                       Clause(right.notes[:1], right.result), Clause((), right.result), Clause(right.notes + (('tie', X, None, 3, True),), right.result)):
            self.assertEqual(engine.take_in('a', (clause,)), 0)
        self.assertEqual(engine.lore('a'), [])
        self.assertEqual(engine.take_in('a', (Clause(right.notes, Literal(5)), right)), 1)

    def test_what_is_learned_is_the_clause_of_this_sheet(self):
        far = sheet_of('a', '( tuple ( plus ( read x ) 1 ) )')
        clause = watched(far, 'a', {'x': 'a'})
        engine = Engine(CHAIN, {'x': 'b'})
        self.assertEqual(engine.take_in('a', [clause]), 1)
        self.assertEqual((engine.lore('a')[0].result.path, engine.ask('a').path), ((), ()))

    def test_lacking_cells(self):
        with self.assertRaises(NoCell) as caught:
            Engine(CHAIN, {}).take_in('x', ())
        self.assertEqual(caught.exception.name, 'x')

    def test_from_one_engine_to_another(self):
        one, other = Engine(CHAIN, {'x': 1, 'y': 5}), Engine(CHAIN, {'x': 7, 'y': 9})
        one.ask('c')
        for cell in 'abc':
            self.assertEqual(other.take_in(cell, one.lore(cell)), 1)
        self.assertEqual((other.ask('c'), other.runs()), ((8, 8), []))
        self.assertEqual(Lore(other.lore('c')), Lore(one.lore('c')))


class SearchTest(unittest.TestCase):
    """Engines against a plain model of them, and against sheets that are asked anew."""

    def test_all_deeds(self):
        answers = {}
        for seed in range(120):
            for kind, many in Play(self, seed).play(40).items():
                answers[kind] = answers.get(kind, 0) + many
        self.assertGreater(min(answers.values()), 30)
        self.assertEqual(len(answers), 4)


class Play:
    """Random deeds, done to an engine and to its model."""

    def __init__(self, test, seed):
        self.test, self.chance, self.box = test, dice(seed), Box(2, 2)
        self.writer = Writer(seed + 10000, INPUTS + INPUTS + CELLS)
        sheet, given = cells_sheet(seed), inputs_in(self.chance, self.box)
        self.engine, self.model = Engine(sheet, given), Model(sheet, given)
        self.learned, self.trials, self.answers = [], [], {}

    def play(self, many):
        words = ['ask'] * 5 + ['edit', 'clear', 'part', 'rewrite', 'redefine', 'undo', 'undo', 'forget', 'take', 'enter', 'leave', 'keep']
        for _ in range(many):
            getattr(self, self.chance.choice(words))()
            self.compare()
        return self.answers

    def compare(self):
        engine, model, equal = self.engine, self.model, self.test.assertEqual
        equal((engine.sheet, engine.given, len(engine), engine.depth), (model.sheet, model.given, len(model.deeds), len(self.trials)))
        equal(engine.runs(), model.log)
        equal([engine.lore(cell) for cell in CELLS], [model.lores[cell].clauses() for cell in CELLS])

    def both(self, word, *arguments):
        told = getattr(self.engine, word)(*arguments)
        self.test.assertEqual(told, getattr(self.model, word)(*arguments))
        return told

    def ask(self):
        cell = self.chance.choice(CELLS)
        answer = self.both('ask', cell)
        self.test.assertEqual(answer, self.engine.sheet.answer(cell, self.engine.given))
        self.answers[type(answer)] = self.answers.get(type(answer), 0) + 1
        self.learned += [pair for pair in self.engine.runs()[-2:] if pair[1] is not None]

    def edit(self):
        self.both('edit', self.chance.choice(INPUTS), value_in(self.chance, self.box))

    def clear(self):
        self.both('clear', self.chance.choice(INPUTS))

    def part(self):
        places = sorted(integer_places(self.engine.given))
        if places:
            self.both('edit_part', self.chance.choice(places), value_in(self.chance, self.box))

    def rewrite(self):
        new = self.writer.expression(3, (), (('d', 2),))
        self.both('rewrite', self.chance.choice(CELLS), new if self.chance.random() < 0.6 else self.chance.choice(self.engine.sheet.cells)[1])

    def redefine(self):
        self.both('redefine', ('d', ('p', 'q'), None, self.writer.expression(2, ('p', 'q'))))

    def undo(self):
        self.both('undo')

    def forget(self):
        self.both('forget')

    def take(self):
        if self.learned:
            cell, _ = self.chance.choice(self.learned)
            self.both('take_in', cell, [clause for name, clause in self.learned if name == cell or self.chance.random() < 0.2])

    def enter(self):
        trial = self.engine.trial()
        self.test.assertIs(trial.__enter__(), trial)
        self.trials.append([trial, self.model.saved(), False])

    def leave(self):
        if self.trials:
            trial, saved, kept = self.trials.pop()
            trial.__exit__(None, None, None)
            if not kept:
                self.model.load(saved)

    def keep(self):
        if self.trials:
            self.trials[-1][0].keep()
            self.trials[-1][2] = True


if __name__ == '__main__':
    unittest.main()
