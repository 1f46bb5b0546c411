"""Watching runs: promises [32] to [34], and the example of [1]."""

import unittest

from glances import logged, random_sheet, some_inputs
from runlore.boxes import Box
from runlore.clauses import Clause
from runlore.errors import NoCell, NoInput, NoNote
from runlore.kindsets import Kinds
from runlore.sheets import Sheet
from runlore.terms import Built, Literal, Shifted, Whole
from runlore.treetexts import read_expression as text
from runlore.trees import Book
from runlore.values import Fault
from runlore.watcher import walked, watched

EMPTY = Book(())
X, Y = ('x',), ('y',)
READ_X, READ_Y = ('read', 'x', True), ('read', 'y', True)


def sheet_of(body, inputs=('x', 'y'), book=EMPTY):
    return Sheet(book, inputs, (('c', text(body)),))


def notes_of(body, book=EMPTY, **given):
    return watched(sheet_of(body, book=book), 'c', given).notes


def kind(place, word, yes=True):
    return ('kind', place, word, yes)


class ExampleTest(unittest.TestCase):
    def test_overview(self):
        body = ('if', ('most', ('read', 'a'), 0, ('read', 'b')), ('read', 'b'), ('read', 'a'))
        s = Sheet(Book(()), ('a', 'b'), (('big', body),))
        self.assertEqual(s.answer('big', {'a': 3, 'b': 5}), 5)
        c = watched(s, 'big', {'a': 3, 'b': 5})
        self.assertEqual(c.notes[2:], (
            ('kind', ('a',), 'integer', True), ('kind', ('b',), 'integer', True), ('tie', ('a',), ('b',), 0, True)))
        self.assertEqual((str(c.result), c({'a': -7, 'b': 100})), ('@b+0', 100))


class NoteTest(unittest.TestCase):
    def test_reads(self):
        self.assertEqual(notes_of('( tuple ( read x ) ( read y ) ( read x ) )', x=1, y=()), (READ_X, READ_Y))
        clause = watched(sheet_of('( tuple ( read x ) ( read y ) )'), 'c', {'x': 1, 'y': Fault('bad')})
        self.assertEqual(clause.notes, (READ_X, ('read', 'y', False)))
        self.assertEqual((clause.result.word, clause.result.rule, clause.result.path), ('read', 'c', (1, 1)))
        self.assertEqual(clause.reads, (('x', True), ('y', False)))

    def test_cells_are_read_like_inputs(self):
        s = Sheet(EMPTY, ('x',), (('c', text('( plus ( read d ) 1 )')), ('d', text('( fail bad )'))))
        clause = watched(s, 'c', {'d': 4})
        self.assertEqual(clause.notes, (('read', 'd', True), kind(('d',), 'integer')))
        self.assertEqual(str(clause.result), '@d+1')
        self.assertEqual(watched(s, 'c', {'d': Fault('bad')}).result, Fault('read'))

    def test_no_notes(self):
        for body in ('5', "'red", '( tuple 1 ( tuple ) )', '( plus 3 4 )', '( part ( tuple 1 2 ) 1 )',
                     '( join ( tuple 1 ) ( tuple ) )', '( if ( most 1 0 2 ) 1 2 )', "( if ( alike 'a 'b ) 1 2 )",
                     '( if ( is atom ( tuple ) ) 1 2 )', "( if ( is atom 'a ) 1 2 )", '( if ( sized ( tuple 1 ) 1 ) 1 2 )',
                     '( each z ( tuple 1 2 ) ( plus z 1 ) )', '( plus ( tuple ) 1 )', "( plus 'a 1 )", '( part 5 0 )',
                     '( part ( tuple ) 0 )', '( join 1 2 )', "( if ( most 1 0 'a ) 1 2 )", '( reach 4 )', "( reach 'q )",
                     '( fail bad )', '( if ( not ( is integer 1 ) ) 1 2 )', '( if ( alike 1 2 ) 1 2 )'):
            s = sheet_of(body)
            clause = watched(s, 'c', {})
            self.assertEqual((clause.notes, clause.reads, clause.region.words), ((), (), ()), body)
            result = clause.result if isinstance(clause.result, Fault) else clause.result({})
            self.assertEqual(result, s.answer('c', {}), body)
            self.assertEqual(walked(s, 'c', ()), clause)

    def test_kinds(self):
        self.assertEqual(notes_of('( plus ( read x ) 1 )', x=1), (READ_X, kind(X, 'integer')))
        self.assertEqual(notes_of('( plus ( read x ) 1 )', x='a'), (READ_X, kind(X, 'integer', False)))
        self.assertEqual(
            notes_of('( if ( is atom ( read x ) ) 1 ( if ( is tuple ( read x ) ) 2 ( plus ( read x ) 1 ) ) )', x=1),
            (READ_X, kind(X, 'atom', False), kind(X, 'tuple', False)))
        # What is known decides the other kinds.
        self.assertEqual(
            notes_of('( if ( is atom ( read x ) ) ( if ( is tuple ( read x ) ) 2 ( plus ( read x ) 1 ) ) 1 )', x='a'),
            (READ_X, kind(X, 'atom')))

    def test_sizes(self):
        size = (READ_X, kind(X, 'tuple'), ('size', X, 2))
        self.assertEqual(notes_of('( part ( read x ) 1 )', x=(1, 2)), size)
        self.assertEqual(notes_of('( part ( read x ) 2 )', x=(1, 2)), size)
        self.assertEqual(notes_of('( part ( part ( read x ) 1 ) 0 )', x=(1, (2,))), size + (
            kind(('x', 1), 'tuple'), ('size', ('x', 1), 1)))
        self.assertEqual(notes_of('( tuple ( part ( read x ) 1 ) ( part ( read x ) 0 ) )', x=(1, 2)), size)
        self.assertEqual(notes_of('( each z ( read x ) z )', x=(1, 2)), size)
        self.assertEqual(notes_of('( fold a 0 z ( read x ) z )', x=(1, 2)), size)
        self.assertEqual(notes_of('( pick z ( read x ) ( is integer z ) )', x=(1, 2)), size + (
            kind(('x', 0), 'integer'), kind(('x', 1), 'integer')))
        self.assertEqual(notes_of('( join ( read x ) ( read y ) )', x=(1,), y=()), (
            READ_X, READ_Y, kind(X, 'tuple'), kind(Y, 'tuple'), ('size', X, 1), ('size', Y, 0)))
        self.assertEqual(notes_of('( join ( read x ) ( read y ) )', x=(1,), y=1), (
            READ_X, READ_Y, kind(X, 'tuple'), kind(Y, 'tuple', False)))
        self.assertEqual(notes_of('( join ( read x ) ( read x ) )', x=(1,)), (READ_X, kind(X, 'tuple'), ('size', X, 1)))

    def test_sized(self):
        body = '( if ( sized ( read x ) 1 ) 1 ( if ( sized ( read x ) 1 ) 2 ( if ( sized ( read x ) 0 ) 3 ( part ( read x ) 0 ) ) ) )'
        start = (READ_X, kind(X, 'tuple'))
        self.assertEqual(notes_of(body, x=(7,)), start + (('sized', X, 1, True),))
        self.assertEqual(notes_of(body, x=()), start + (('sized', X, 1, False), ('sized', X, 0, True)))
        self.assertEqual(notes_of(body, x=(1, 2)), start + (
            ('sized', X, 1, False), ('sized', X, 0, False), ('size', X, 2)))
        # A size that is known decides.
        self.assertEqual(notes_of('( if ( sized ( read x ) 1 ) ( part ( read x ) 0 ) 5 )', x=(3,)), start + (
            ('sized', X, 1, True),))
        known = '( let p ( part ( read x ) 0 ) ( if ( sized ( read x ) 1 ) p ( if ( sized ( read x ) 2 ) 1 2 ) ) )'
        self.assertEqual(notes_of(known, x=(3, 4)), start + (('size', X, 2),))

    def test_ties(self):
        both = (READ_X, READ_Y, kind(X, 'integer'), kind(Y, 'integer'))
        for body, note in (
                ('( if ( most ( read x ) 0 ( read y ) ) 1 2 )', ('tie', X, Y, 0)),
                ('( if ( most ( read x ) 3 ( read y ) ) 1 2 )', ('tie', X, Y, -3)),
                ('( if ( most ( read x ) -3 ( read y ) ) 1 2 )', ('tie', X, Y, 3)),
                ('( if ( most ( plus ( read x ) 5 ) 3 ( read y ) ) 1 2 )', ('tie', X, Y, -8)),
                ('( if ( most ( read x ) 3 ( plus ( read y ) 5 ) ) 1 2 )', ('tie', X, Y, 2)),
                ('( if ( most ( plus ( plus ( read x ) 1 ) 1 ) 0 ( plus ( read y ) -4 ) ) 1 2 )', ('tie', X, Y, -6))):
            notes = notes_of(body, x=0, y=0)
            self.assertEqual((notes[-1][:-1], {*notes[:-1]}), (note, {*both}), body)
            self.assertEqual(notes[-1][-1], 0 <= note[3], body)
            self.assertEqual(notes_of(body, x=note[3], y=0)[-1], (*note, True))
            self.assertEqual(notes_of(body, x=note[3] + 1, y=0)[-1], (*note, False))

    def test_ties_with_literals(self):
        start = (READ_X, kind(X, 'integer'))
        for body, note in (
                ('( if ( most ( read x ) 0 7 ) 1 2 )', ('tie', X, None, 7)),
                ('( if ( most ( plus ( read x ) 2 ) 1 7 ) 1 2 )', ('tie', X, None, 4)),
                ('( if ( most 7 0 ( read x ) ) 1 2 )', ('tie', None, X, -7)),
                ('( if ( most ( plus 7 1 ) -2 ( plus ( read x ) 3 ) ) 1 2 )', ('tie', None, X, -3))):
            for x in (-20, 20):
                notes = notes_of(body, x=x)
                holds = x <= note[3] if note[1] == X else -x <= note[3]
                self.assertEqual(notes, start + ((*note, holds),), body)

    def test_a_place_with_itself(self):
        start = (READ_X, kind(X, 'integer'))
        for body in ('( if ( most ( read x ) 0 ( read x ) ) 1 2 )', '( if ( most ( read x ) 1 ( read x ) ) 1 2 )',
                     '( if ( most ( plus ( read x ) 3 ) -3 ( read x ) ) 1 2 )'):
            s = sheet_of(body)
            clause = watched(s, 'c', {'x': 4})
            self.assertEqual(clause.notes, start)
            self.assertEqual(clause({'x': 9}), s.answer('c', {'x': 9}))
        self.assertEqual(notes_of('( if ( alike ( read x ) ( read x ) ) 1 2 )', x='a'), (READ_X, kind(X, 'atom')))

    def test_what_ties_decide(self):
        def body(c):
            return f'( if ( most ( read x ) 0 ( read y ) ) ( if ( most ( read y ) {c} ( read x ) ) 1 2 ) 3 )'

        start = (READ_X, READ_Y, kind(X, 'integer'), kind(Y, 'integer'), ('tie', X, Y, 0, True))
        # From x <= y it follows that not y + 1 <= x, but nothing of y <= x.
        self.assertEqual({*notes_of(body(1), x=3, y=3)}, {*start})
        self.assertEqual(notes_of(body(0), x=3, y=3)[-1], ('tie', Y, X, 0, True))
        again = '( if ( most ( read x ) 0 ( read y ) ) ( if ( most ( read x ) -1 ( read y ) ) 1 2 ) 3 )'
        self.assertEqual({*notes_of(again, x=3, y=3)}, {*start})

    def test_what_several_ties_decide(self):
        body = ('( if ( most ( read x ) 0 5 ) ( if ( most 5 0 ( read y ) ) ( if ( most ( read x ) 0 ( read y ) ) 1 2 ) 3 ) 4 )')
        notes = notes_of(body, x=4, y=6)
        self.assertEqual(notes, (
            READ_X, kind(X, 'integer'), ('tie', X, None, 5, True), READ_Y, kind(Y, 'integer'), ('tie', None, Y, -5, True)))

    def test_samenesses(self):
        start = (READ_X, kind(X, 'atom'))
        self.assertEqual(notes_of("( if ( alike ( read x ) 'red ) 1 2 )", x='red'), start + (('alike', X, 'red', True),))
        self.assertEqual(notes_of("( if ( alike 'red ( read x ) ) 1 2 )", x='a'), start + (('alike', X, 'red', False),))
        both = (READ_X, READ_Y, kind(X, 'atom'), kind(Y, 'atom'))
        self.assertEqual(notes_of('( if ( alike ( read x ) ( read y ) ) 1 2 )', x='a', y='a'), both + (
            ('alike', X, Y, True),))
        swapped = notes_of('( if ( alike ( read y ) ( read x ) ) 1 2 )', x='a', y='b')
        self.assertEqual(swapped, (READ_Y, READ_X, kind(Y, 'atom'), kind(X, 'atom'), ('alike', Y, X, False)))

    def test_what_samenesses_decide(self):
        body = ("( if ( alike ( read x ) 'red ) ( if ( alike ( read x ) 'blue ) 1 ( if ( alike ( read x ) ( read y ) ) "
                "( if ( alike 'red ( read y ) ) 2 3 ) ( if ( alike 'red ( read y ) ) 4 5 ) ) ) 6 )")
        for y in ('red', 'a'):
            notes = notes_of(body, x='red', y=y)
            self.assertEqual(notes, (
                READ_X, kind(X, 'atom'), ('alike', X, 'red', True), READ_Y, kind(Y, 'atom'), ('alike', X, Y, y == 'red')))

    def test_reach(self):
        s = Sheet(EMPTY, ('x', 'y'), (('c', text('( reach ( read x ) )')), ('d', ('int', 1))))
        start = (READ_X, kind(X, 'atom'))
        asked = [('alike', X, name, False) for name in ('x', 'y', 'c', 'd')]
        self.assertEqual(watched(s, 'c', {'x': 'x'}).notes, start + (('alike', X, 'x', True),))
        self.assertEqual(watched(s, 'c', {'x': 'x'}).result, Literal('x'))
        self.assertEqual(watched(s, 'c', {'x': 'y', 'y': 7}).notes, start + (
            asked[0], ('alike', X, 'y', True), ('read', 'y', True)))
        d = watched(s, 'c', {'x': 'd', 'd': 7})
        self.assertEqual(d.notes, start + (*asked[:3], ('alike', X, 'd', True), ('read', 'd', True)))
        self.assertEqual(d.result, Whole(('d',)))
        clause = watched(s, 'c', {'x': 'q'})
        self.assertEqual(clause.notes, start + tuple(asked))
        self.assertEqual(clause.result, Fault('name'))
        self.assertEqual(watched(s, 'c', {'x': 3}).notes, (READ_X, kind(X, 'atom', False)))
        fault = watched(s, 'c', {'x': 'y', 'y': Fault('bad')})
        self.assertEqual((fault.notes[-1], fault.result), (('read', 'y', False), Fault('read')))

    def test_reach_of_what_is_known(self):
        self.assertEqual(notes_of("( reach 'x )", x=3), (READ_X,))
        body = "( if ( alike ( read x ) 'y ) ( reach ( read x ) ) 1 )"
        self.assertEqual(notes_of(body, x='y', y=3), (READ_X, kind(X, 'atom'), ('alike', X, 'y', True), READ_Y))


class ResultTest(unittest.TestCase):
    def result(self, body, **given):
        return str(watched(sheet_of(body), 'c', given).result)

    def test_moved_values_stay(self):
        self.assertEqual(self.result('( read x )', x=5), '@x')
        self.assertEqual(self.result('( tuple ( read x ) ( part ( read y ) 1 ) )', x=5, y=(1, 2)), '( @x @y.1 )')
        self.assertEqual(self.result('( each z ( read x ) z )', x=(1, 2)), '( @x.0 @x.1 )')
        self.assertEqual(self.result('( fold a 0 z ( read x ) z )', x=(1, 2)), '@x.1')
        self.assertEqual(self.result('( join ( read x ) ( tuple 1 ) )', x=(1, 2)), '( @x.0 @x.1 1 )')

    def test_written_by_what_was_noted(self):
        self.assertEqual(self.result('( plus ( plus ( read x ) 4 ) -6 )', x=5), '@x-2')
        self.assertEqual(self.result('( plus ( read x ) 0 )', x=5), '@x+0')
        self.assertEqual(self.result('( if ( is tuple ( read x ) ) 1 ( read x ) )', x='a'), '@x')
        self.assertEqual(self.result('( if ( is integer ( read x ) ) ( read x ) 1 )', x=4), '@x+0')
        same = '( if ( both ( most ( read x ) 1 ( read y ) ) ( most ( read y ) -1 ( read x ) ) ) ( read y ) 0 )'
        self.assertEqual(self.result(same, x=4, y=5), '@x+1')
        five = '( if ( both ( most ( read x ) 0 5 ) ( most 5 0 ( read x ) ) ) ( tuple ( read x ) ( plus ( read x ) 2 ) ) 0 )'
        self.assertEqual(self.result(five, x=5), '( 5 7 )')
        self.assertEqual(self.result("( if ( alike ( read x ) 'red ) ( read x ) 1 )", x='red'), "'red")
        self.assertEqual(self.result('( if ( alike ( read y ) ( read x ) ) ( read y ) 1 )', x='a', y='a'), '@x')
        self.assertEqual(self.result('( if ( sized ( read x ) 2 ) ( read x ) 1 )', x=(1, ())), '( @x.0 @x.1 )')

    def test_faults(self):
        for body, word, path in (
                ('( plus ( read x ) 1 )', 'kind', ()), ('( tuple ( part ( read y ) 2 ) )', 'part', (1, 0)),
                ("( reach ( part ( read y ) 1 ) )", 'name', ()), ('( tuple 1 ( fail bad ) )', 'bad', (1, 1)),
                ('( tuple ( tuple ( read z ) ) )', 'read', (1, 0, 1, 0)),
                ('( fold a ( tuple 1 1 1 1 1 1 1 1 ) p ( join ( read y ) ( join ( read y ) ( join ( read y ) ( read y ) ) ) ) '
                 '( join a ( join a a ) ) )', 'long', (5,))):
            s = Sheet(EMPTY, ('x', 'y', 'z'), (('c', text(body)),))
            given = {'x': 'a', 'y': (1, 'q'), 'z': Fault('no')}
            fault = watched(s, 'c', given).result
            self.assertIsInstance(fault, Fault)
            self.assertEqual((fault.word, fault.rule, fault.path), (word, 'c', path), body)
            plain = s.answer('c', given)
            self.assertEqual((fault.word, fault.rule, fault.path), (plain.word, plain.rule, plain.path))

    def test_faults_of_definitions(self):
        book = Book((('f', ('p',), None, ('tuple', (('plus', ('name', 'p'), 1),))),))
        clause = watched(sheet_of('( call f ( read x ) )', book=book), 'c', {'x': ()})
        self.assertEqual((clause.result.word, clause.result.rule, clause.result.path), ('kind', 'f', (1, 0)))
        self.assertEqual(clause.notes, (READ_X, kind(X, 'integer', False)))

    def test_what_a_clause_is(self):
        clause = watched(sheet_of('( plus ( read x ) 1 )'), cell='c', given={'x': 4})
        self.assertEqual(clause, Clause((READ_X, kind(X, 'integer')), Shifted(X, 1)))
        self.assertEqual(clause.region.words, (('kinds', X, Kinds.of('integer')),))
        self.assertIsInstance(clause.notes, tuple)
        with self.assertRaises(NoInput):
            clause({'x': 'a'})
        built = watched(sheet_of('( tuple ( tuple ) ( read x ) )'), 'c', {'x': 4})
        self.assertEqual(built.result, Built((Built(()), Whole(X))))


class ErrorTest(unittest.TestCase):
    def test_lacking_cells(self):
        s = sheet_of('( read x )')
        for call in (lambda: watched(s, 'x', {}), lambda: walked(s, 'x', ()), lambda: walked(s, 'x', (5,))):
            with self.assertRaises(NoCell) as caught:
                call()
            self.assertEqual(caught.exception.name, 'x')

    def test_lacking_names(self):
        for body, given in (('( read y )', {'x': 1}), ("( reach 'y )", {'x': 1}), ('( tuple ( read x ) ( read y ) )', {'x': 1}),
                            ('( reach ( read x ) )', {'x': 'y'})):
            with self.assertRaises(NoCell) as caught:
                watched(sheet_of(body), 'c', given)
            self.assertEqual(caught.exception.name, 'y')
        # What is not read may be lacking, and what is no name of the sheet does not matter.
        self.assertEqual(watched(sheet_of('( read x )'), 'c', {'x': 1, 'q': 2}).result, Whole(X))

    def test_given_stays(self):
        given = {'x': (1, 2), 'y': Fault('bad')}
        watched(sheet_of('( each z ( read x ) ( plus z 1 ) )'), 'c', given)
        self.assertEqual(given, {'x': (1, 2), 'y': Fault('bad')})


class WalkTest(unittest.TestCase):
    def setUp(self):
        self.sheet = sheet_of('( if ( most ( part ( read x ) 0 ) 0 3 ) ( part ( read x ) 0 ) ( read y ) )')
        self.place = ('x', 0)
        self.notes = (
            READ_X, kind(X, 'tuple'), ('size', X, 2), kind(self.place, 'integer'), ('tie', self.place, None, 3, True))

    def wrong(self, notes, sheet=None):
        try:
            walked(sheet or self.sheet, 'c', notes)
        except NoNote as e:
            return e.at
        return None

    def test_walked(self):
        clause = walked(self.sheet, cell='c', notes=self.notes)
        self.assertEqual(clause, watched(self.sheet, 'c', {'x': (1, 2)}))
        self.assertEqual(str(clause.result), '@x.0+0')
        other = walked(self.sheet, 'c', (*self.notes[:4], ('tie', self.place, None, 3, False), READ_Y))
        self.assertEqual(str(other.result), '@y')
        fault = walked(self.sheet, 'c', (('read', 'x', False),))
        self.assertEqual((fault.result.word, fault.result.rule, fault.result.path), ('read', 'c', (1, 1, 1)))
        self.assertEqual(walked(self.sheet, 'c', (READ_X, kind(X, 'tuple', False))).result, Fault('kind'))
        self.assertEqual(walked(self.sheet, 'c', (READ_X, kind(X, 'tuple'), ('size', X, 0))).result, Fault('part'))

    def test_too_few_notes(self):
        for many in range(5):
            self.assertEqual(self.wrong(self.notes[:many]), many)

    def test_too_many_notes(self):
        self.assertEqual(self.wrong((*self.notes, READ_Y)), 5)
        self.assertEqual(self.wrong((*self.notes, READ_Y, READ_Y)), 5)
        self.assertEqual(self.wrong((('read', 'x', False), kind(X, 'tuple'))), 1)
        self.assertEqual(self.wrong((5,), sheet_of('1')), 0)

    def test_other_questions(self):
        for at, bad in ((0, READ_Y), (0, kind(X, 'tuple')), (1, kind(X, 'atom')), (1, kind(Y, 'tuple')), (1, READ_X),
                        (2, ('sized', X, 2, True)), (2, ('size', Y, 2)), (3, kind(X, 'integer')), (3, ('size', X, 2)),
                        (4, ('tie', self.place, None, 2, True)), (4, ('tie', None, self.place, 3, True)),
                        (4, ('tie', self.place, X, 3, True))):
            notes = (*self.notes[:at], bad, *self.notes[at + 1:])
            self.assertEqual(self.wrong(notes), at, bad)

    def test_no_notes_at_all(self):
        for at, bad in ((0, None), (0, ()), (0, 5), (0, 'read'), (0, ('read', 'x')), (0, ('read', 'x', 1)),
                        (0, ('read', 'x', None)), (1, ('kind', X, 'tuple', 1)), (2, ('size', X, True)), (2, ('size', X, -1)),
                        (2, ('size', X)), (2, ('size', X, '2')), (4, ('tie', self.place, None, 3, 1)),
                        (4, ('tie', ('x', False), None, 3, True))):
            notes = (*self.notes[:at], bad, *self.notes[at + 1:])
            self.assertEqual(self.wrong(notes), at, bad)
        one = sheet_of('( if ( most ( read x ) 0 1 ) 1 2 )')
        start = (READ_X, kind(X, 'integer'))
        self.assertIsNone(self.wrong((*start, ('tie', X, None, 1, True)), one))
        self.assertEqual(self.wrong((*start, ('tie', X, None, True, True)), one), 2)

    def test_outcomes_without_a_member(self):
        s = sheet_of('( if ( sized ( read x ) 2 ) 1 ( each z ( read x ) 1 ) )')
        start = (READ_X, kind(X, 'tuple'), ('sized', X, 2, False))
        self.assertEqual(self.wrong((*start, ('size', X, 2)), s), 3)
        self.assertIsNone(self.wrong((*start, ('size', X, 3)), s))
        self.assertEqual(walked(s, 'c', (*start, ('size', X, 0))).result, Built(()))

    def test_decided_glances_have_no_note(self):
        s = sheet_of('( if ( is atom ( read x ) ) ( if ( is atom ( read x ) ) 1 2 ) 3 )')
        self.assertIsNone(self.wrong((READ_X, kind(X, 'atom')), s))
        self.assertEqual(self.wrong((READ_X, kind(X, 'atom'), kind(X, 'atom')), s), 2)


class BoundTest(unittest.TestCase):
    def test_many_notes(self):
        """Loops over loops: each part is compared with each other one."""
        s = sheet_of('( fold n 0 p ( read x ) ( fold m n q ( read x ) ( if ( most p 0 q ) ( plus m 1 ) m ) ) )')
        given = {'x': (5, 3, 9, 1, 7, 2, 8, 4, 11, 6, 10, 0)}
        clause = watched(s, 'c', given)
        self.assertGreater(len(clause.notes), 25)
        self.assertEqual(clause(given), 78)
        self.assertEqual(walked(s, 'c', clause.notes), clause)
        self.assertEqual(Clause(clause.notes, clause.result).region, clause.region)

    def test_long_runs(self):
        s = sheet_of('( fold a ( tuple ( tuple ) ) z ( read x ) ( join a a ) )')
        self.assertEqual(watched(s, 'c', {'x': (1,) * 9}).result.weight, 513)
        self.assertEqual(watched(s, 'c', {'x': (1,) * 11}).result, Fault('long'))


class SearchTest(unittest.TestCase):
    """Clauses against the reads and glances of plain runs at many small inputs."""

    def test_clauses_are_exact(self):
        counts = {}
        for seed in range(300):
            sheet = random_sheet(seed)
            inputs = some_inputs(seed, Box(2, 2), 25)
            clauses = {}
            for given in inputs:
                log, result = logged(sheet, 'c', given)
                clause = watched(sheet, 'c', given)
                self.assertEqual(clauses.setdefault(log, clause), clause)
                self.assertEqual(walked(sheet, 'c', clause.notes), clause)
                self.assertEqual(Clause(clause.notes, clause.result).region, clause.region)
                found = clause(given)
                self.assertEqual(found, result)
                if isinstance(result, Fault):
                    self.assertEqual((found.rule, found.path), (result.rule, result.path))
                else:
                    self.assertEqual(clause.region.written(clause.result), clause.result)
                for other in inputs:
                    inside = logged(sheet, 'c', other)[0] == log
                    self.assertEqual(other in clause, inside, (sheet.body('c'), given, other))
                for note in clause.notes:
                    counts[note[0]] = counts.get(note[0], 0) + 1
            for log in clauses:
                least = clauses[log].region.least
                self.assertEqual(watched(sheet, 'c', least), clauses[log])
        self.assertGreater(min(counts[word] for word in ('read', 'kind', 'size', 'sized', 'tie', 'alike')), 20, counts)


if __name__ == '__main__':
    unittest.main()
