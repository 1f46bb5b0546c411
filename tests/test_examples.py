"""The examples of all sections of the document, one after another."""

import builtins
import doctest
import sys
import unittest

EXAMPLES = r"""
1. Overview

    >>> from runlore.sheets import Sheet
    >>> from runlore.trees import Book
    >>> from runlore.watcher import watched
    >>> body = ('if', ('most', ('read', 'a'), 0, ('read', 'b')), ('read', 'b'), ('read', 'a'))
    >>> s = Sheet(Book(()), ('a', 'b'), (('big', body),))
    >>> s.answer('big', {'a': 3, 'b': 5})
    5
    >>> c = watched(s, 'big', {'a': 3, 'b': 5})
    >>> c.notes[2:]
    (('kind', ('a',), 'integer', True), ('kind', ('b',), 'integer', True), ('tie', ('a',), ('b',), 0, True))
    >>> str(c.result), c({'a': -7, 'b': 100})
    ('@b+0', 100)

4. Values, places, terms (modules `values`, `places`, `terms`)

    >>> from runlore.terms import Built, Literal, Shifted, Whole
    >>> term = Built((Shifted(('x', 0), 2), Whole(('y',)), Literal('red')))
    >>> str(term), term({'x': (5,), 'y': ()}), term.weight
    ("( @x.0+2 @y 'red )", (7, (), 'red'), 4)

6. Bodies and books (modules `trees`, `treetexts`)

    >>> from runlore.treetexts import read_expression, show_expression
    >>> read_expression('( if ( most x 0 y ) x ( plus y -1 ) )')
    ('if', ('most', ('name', 'x'), 0, ('name', 'y')), ('name', 'x'), ('plus', ('name', 'y'), -1))
    >>> read_expression('( if x y z )')
    Traceback (most recent call last):
    runlore.errors.NoText: 2

7. Kind sets (module `kindsets`)

    >>> from runlore.kindsets import Kinds
    >>> a = Kinds.present() - Kinds.sized(2)
    >>> str(a), 2 in a, a.only, str(a & Kinds.of('tuple'))
    ('integer|atom|tuple but 2', False, None, 'tuple but 2')

8. Regions (modules `regions`, `boxes`)

    >>> from runlore.kindsets import Kinds
    >>> from runlore.regions import Region
    >>> i, j = ('i', 0), ('i', 1)
    >>> pair = Region([('kinds', ('i',), Kinds.sized(2)), ('kinds', i, Kinds.of('integer')), ('kinds', j, Kinds.of('integer'))])
    >>> low = pair.with_word(('tie', i, j, 0)).with_word(('tie', j, None, 0))
    >>> low.words[3:]
    (('tie', ('i', 0), None, 0), ('tie', ('i', 0), ('i', 1), 0), ('tie', ('i', 1), None, 0))
    >>> len(pair - low), low.least, {'i': (1, 0)} in low
    (3, {'i': (0, 0)}, False)

9. Sheets and knots (module `sheets`)

    >>> from runlore.sheets import Sheet
    >>> from runlore.treetexts import read_expression
    >>> from runlore.trees import Book
    >>> a = ('a', read_expression('( if ( most ( read i ) 0 0 ) ( read b ) 1 )'))
    >>> s = Sheet(Book(()), ('i',), (a, ('b', ('read', 'a')), ('e', read_expression('( tuple ( read b ) )'))))
    >>> s.answer('e', {'i': 4}), s.knots({'i': 4})
    ((1,), ())
    >>> s.answer('e', {'i': 0}).word, s.answer('a', {'i': 0}).word, s.knots({'i': 0})
    ('read', 'knot', (('a', 'b'),))

11. Lore and tables (modules `lore`, `tables`)

    >>> from runlore.boxes import Box
    >>> from runlore.sheets import Sheet
    >>> from runlore.tables import table, witnesses
    >>> from runlore.treetexts import read_expression
    >>> from runlore.trees import Book
    >>> s = Sheet(Book(()), ('t',), (('n', read_expression('( fold a 0 x ( read t ) ( plus a 1 ) )')),))
    >>> t = table(s, 'n', Box(2, 1))
    >>> len(t), str(t[2].result), str(t[3].result), str(t[4].result)
    (5, '2', 'fault kind', 'fault read')
    >>> witnesses(t, Box(2, 1))[1:]
    ({'t': (0,)}, {'t': (0, 0)}, {'t': 0}, {'t': Fault('read')})

13. Composed clauses (module `composing`)

    >>> from runlore.composing import composed
    >>> from runlore.sheets import Sheet
    >>> from runlore.treetexts import read_expression
    >>> from runlore.trees import Book
    >>> b = ('b', read_expression('( plus ( read i ) 1 )'))
    >>> s = Sheet(Book(()), ('i', 'k'), (b, ('c', read_expression('( if ( most ( read b ) 0 ( read k ) ) ( read b ) 0 )'))))
    >>> c = composed(s, 'c', {'i': 4, 'k': 9})
    >>> c.notes
    (('read', 'i', True), ('kind', ('i',), 'integer', True), ('read', 'k', True), ('kind', ('k',), 'integer', True), ('tie', ('i',), ('k',), -1, True))
    >>> str(c.result)
    '@i+1'

14. Margins and wishes (modules `margins`, `wishes`)

    >>> from runlore.margins import margin
    >>> from runlore.sheets import Sheet
    >>> from runlore.treetexts import read_expression
    >>> from runlore.trees import Book
    >>> top = read_expression('( fold best ( part ( read x ) 0 ) p ( read x ) ( if ( most best 0 p ) p best ) )')
    >>> margin(Sheet(Book(()), ('x',), (('top', top),)), 'top', {'x': (3, 5, 4)}, ('x', 1))[:2]
    (4, None)

14. Margins and wishes (modules `margins`, `wishes`)

    >>> from runlore.kindsets import Kinds
    >>> from runlore.regions import Region
    >>> from runlore.sheets import Sheet
    >>> from runlore.treetexts import read_expression
    >>> from runlore.trees import Book
    >>> from runlore.wishes import wish
    >>> way = read_expression("( if ( most ( read x ) 0 ( read y ) ) 'up 'down )")
    >>> up = Region([('kinds', ('answer',), Kinds.of('atom')), ('alike', ('answer',), 'up', True)])
    >>> wish(Sheet(Book(()), ('x', 'y'), (('way', way),)), 'way', {'x': 3, 'y': 1}, up)[:2]
    ('move', 1)
"""


class ExamplesTest(unittest.TestCase):
    def tearDown(self):
        # What an example shows is kept under this name, which other tests take for a builtin then.
        vars(builtins).pop('_', None)

    def test_examples(self):
        parts = EXAMPLES.split('\n\n    >>> ')
        self.assertEqual(len(parts), 11)
        runner = doctest.DocTestRunner(verbose=False)
        for at, part in enumerate(parts[1:]):
            # Each example stands alone.
            lines = ['>>> ' + part.split('\n')[0]]
            for line in part.split('\n')[1:]:
                if not line.startswith('    '):
                    break
                lines.append(line[4:])
            test = doctest.DocTestParser().get_doctest('\n'.join(lines) + '\n', {}, f'example {at}', None, 0)
            self.assertGreater(len(test.examples), 1)
            runner.run(test, out=sys.stdout.write)
        self.assertEqual(runner.summarize(verbose=False).failed, 0)


if __name__ == '__main__':
    unittest.main()
