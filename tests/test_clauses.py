"""Promise [33], and the notes and words of [32]: clauses."""

import unittest

from runlore.clauses import Clause
from runlore.errors import NoInput, NoNote
from runlore.kindsets import Kinds
from runlore.regions import Region
from runlore.terms import Built, Literal, Shifted, Whole
from runlore.values import Fault

X, Y = ('x',), ('y',)
READ_X, READ_Y = ('read', 'x', True), ('read', 'y', True)
PRESENT, FAULT = Kinds.present(), Kinds.of('fault')


class ClauseTest(unittest.TestCase):
    def setUp(self):
        self.notes = (
            READ_X, ('kind', X, 'integer', True), READ_Y, ('kind', Y, 'integer', True), ('tie', X, Y, -1, True),
            ('read', 'z', False))
        self.clause = Clause(self.notes, Shifted(X, 2))

    def test_attributes(self):
        for clause in (self.clause, Clause(notes=self.notes, result=Shifted(X, 2))):
            self.assertEqual(clause.notes, self.notes)
            self.assertEqual(clause.result, Shifted(X, 2))
            self.assertEqual(clause.reads, (('x', True), ('y', True), ('z', False)))
            self.assertEqual(clause.region, Region([
                ('kinds', X, Kinds.of('integer')), ('kinds', Y, Kinds.of('integer')), ('tie', X, Y, -1),
                ('kinds', ('z',), FAULT)]))

    def test_inputs(self):
        fault = Fault('a')
        for given, told in (({'x': 3, 'y': 4, 'z': fault}, True), ({'x': 3, 'y': 4, 'z': fault, 'w': 1}, True),
                            ({'x': 3, 'y': 3, 'z': fault}, False), ({'x': 3, 'y': 4, 'z': 0}, False),
                            ({'x': 'a', 'y': 4, 'z': fault}, False), ({'x': fault, 'y': 4, 'z': fault}, False)):
            self.assertIs(given in self.clause, told)
            if told:
                self.assertEqual(self.clause(given), 5)
                self.assertEqual(self.clause(inputs=given), 5)
            else:
                with self.assertRaises(NoInput):
                    self.clause(given)

    def test_results(self):
        self.assertEqual(Clause((), Literal('red'))({}), 'red')
        self.assertEqual(Clause((READ_X,), Built([Whole(X), Whole(X)]))({'x': ()}), ((), ()))
        fault = Fault('kind', 'cell', (1,))
        found = Clause((READ_X,), fault)({'x': 3})
        self.assertEqual((found, found.rule, found.path), (fault, 'cell', (1,)))
        with self.assertRaises(NoInput):
            Clause((READ_X,), fault)({'x': Fault('a')})

    def test_without_notes(self):
        clause = Clause((), Literal(1))
        self.assertEqual((clause.notes, clause.reads, clause.region.words), ((), (), ()))
        self.assertIs({} in clause, True)

    def test_notes_without_a_member(self):
        clause = Clause((READ_X, ('kind', X, 'integer', True), ('kind', X, 'atom', True)), Literal(1))
        self.assertFalse(clause.region)
        self.assertIs({'x': 1} in clause, False)

    def test_equal(self):
        same = Clause(self.notes, Shifted(X, 2))
        self.assertTrue(self.clause == same)
        self.assertFalse(self.clause != same)
        for other in (Clause(self.notes, Shifted(X, 3)), Clause(self.notes[:-1], Shifted(X, 2)),
                      Clause(self.notes, Fault('a')), self.notes, None):
            self.assertIs(self.clause == other, False)
        one, other = Clause((READ_X, READ_Y), Literal(1)), Clause((READ_Y, READ_X), Literal(1))
        self.assertEqual(one.region, other.region)
        self.assertNotEqual(one, other)
        self.assertEqual(Clause((), Fault('a', 'b', (1,))), Clause((), Fault('a')))


class WordsTest(unittest.TestCase):
    """The words of each note, as the region shows them."""

    def check(self, notes, words):
        self.assertEqual(Clause(tuple(notes), Literal(0)).region, Region(words))

    def test_reads(self):
        self.check([READ_X], [('kinds', X, PRESENT)])
        self.check([('read', 'x', False)], [('kinds', X, FAULT)])

    def test_kinds(self):
        for word in ('integer', 'atom', 'tuple'):
            self.check([READ_X, ('kind', X, word, True)], [('kinds', X, Kinds.of(word))])
            self.check([READ_X, ('kind', X, word, False)], [('kinds', X, PRESENT - Kinds.of(word))])

    def test_sizes(self):
        start, tuples = [READ_X, ('kind', X, 'tuple', True)], Kinds.of('tuple')
        self.check(start + [('size', X, 0)], [('kinds', X, Kinds.sized(0))])
        self.check(start + [('sized', X, 2, True)], [('kinds', X, Kinds.sized(2))])
        self.check(start + [('sized', X, 2, False)], [('kinds', X, tuples - Kinds.sized(2))])
        self.check([READ_X, ('sized', X, 2, False)], [('kinds', X, tuples - Kinds.sized(2))])

    def test_ties(self):
        start = [READ_X, READ_Y, ('kind', X, 'integer', True), ('kind', Y, 'integer', True)]
        words = [('kinds', X, Kinds.of('integer')), ('kinds', Y, Kinds.of('integer'))]
        self.check(start + [('tie', X, Y, 3, True)], words + [('tie', X, Y, 3)])
        self.check(start + [('tie', X, Y, 3, False)], words + [('tie', Y, X, -4)])
        self.check(start + [('tie', None, Y, 3, False)], words + [('tie', Y, None, -4)])
        self.check(start + [('tie', X, None, -3, False)], words + [('tie', None, X, 2)])

    def test_samenesses(self):
        start = [READ_X, READ_Y, ('kind', X, 'atom', True), ('kind', Y, 'atom', True)]
        words = [('kinds', X, Kinds.of('atom')), ('kinds', Y, Kinds.of('atom'))]
        for yes in (True, False):
            self.check(start + [('alike', X, Y, yes)], words + [('alike', X, Y, yes)])
            self.check(start + [('alike', X, 'red', yes)], words + [('alike', X, 'red', yes)])


class NoNoteTest(unittest.TestCase):
    def check(self, notes, at):
        with self.assertRaises(NoNote) as caught:
            Clause(tuple(notes), Literal(0))
        self.assertEqual(caught.exception.at, at, notes)

    def test_no_notes(self):
        start = [READ_X, ('kind', X, 'tuple', True), ('size', X, 3), ('kind', ('x', 0), 'integer', True),
                 ('kind', ('x', 1), 'integer', True), ('kind', ('x', 2), 'atom', True)]
        i, j, k = ('x', 0), ('x', 1), ('x', 2)
        for thing in (
                (), None, 3, 'read', ['read', 'y', True], (1,), (True,), (['read'],),
                ('read', 'y'), ('read', 'Y', True), ('read', Y, True), ('read', 'y', 1), ('read', 'y', None), ('read', 1, True),
                ('read', 'y', True, True), ('kind', i, 'fault', True), ('kind', i, 'number', True), ('kind', 'x', 'atom', True),
                ('kind', i, 'integer'), ('kind', i, 'integer', 0), ('kind', i, 3, True), ('kind', None, 'integer', True),
                ('kind', ('x', -1), 'integer', True), ('size', X), ('size', X, -1), ('size', X, True), ('size', X, 'a'),
                ('size', X, 3, True), ('size', None, 3), ('sized', X, 3), ('sized', X, -1, True), ('sized', X, 3, 1),
                ('sized', X, False, True), ('tie', i, j, 0), ('tie', i, j, True, True), ('tie', i, j, '0', True),
                ('tie', i, j, 0, 1), ('tie', i, 0, 0, True), ('tie', 'x', j, 0, True), ('tie', i, j, 0, True, True),
                ('alike', k, 'red'), ('alike', k, 'Red', True), ('alike', k, None, True), ('alike', 'red', k, True),
                ('alike', k, 'red', 1), ('alike', k, 3, True), ('kinds', X, Kinds.present()), ('reads', 'y', True)):
            self.check(start + [thing], 6)
            self.check([thing] + start, 0)

    def test_names_that_no_earlier_note_reads(self):
        self.check([('kind', X, 'integer', True)], 0)
        self.check([READ_Y, ('kind', X, 'integer', True), READ_X], 1)
        self.check([('read', 'x', False), ('kind', X, 'integer', True)], 1)
        self.check([READ_X, ('kind', X, 'integer', True), ('tie', X, Y, 0, True)], 2)
        self.check([READ_X, ('kind', X, 'integer', True), ('tie', None, Y, 0, True)], 2)
        self.check([READ_X, ('kind', X, 'atom', True), ('alike', X, Y, True)], 2)
        self.check([READ_X, ('kind', ('y', 0), 'atom', True)], 1)

    def test_words_that_the_notes_before_do_not_ground(self):
        kind = ('kind', X, 'integer', True)
        self.check([READ_X, ('kind', ('x', 0), 'atom', True)], 1)
        self.check([READ_X, ('kind', X, 'tuple', True), ('kind', ('x', 0), 'atom', True)], 2)
        self.check([READ_X, ('size', X, 1), ('size', ('x', 1), 0)], 2)
        self.check([READ_X, ('tie', X, None, 0, True)], 1)
        self.check([READ_X, READ_Y, kind, ('tie', X, Y, 0, False)], 3)
        self.check([READ_X, kind, ('alike', X, 'red', True)], 2)
        self.check([READ_X, ('kind', X, 'integer', False), ('tie', X, None, 0, True)], 2)

    def test_the_first_one_counts(self):
        self.check([READ_X, ('tie', X, None, 0, True), ('kind', Y, 'atom', True), None], 1)
        self.check([READ_X, ('kind', Y, 'atom', True), ('tie', X, None, 0, True), None], 1)
        self.check([READ_X, None, ('tie', X, None, 0, True), ('kind', Y, 'atom', True)], 1)


if __name__ == '__main__':
    unittest.main()
