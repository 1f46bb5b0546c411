"""Tables, what they lack, and witnesses: promise [36]."""

import unittest

from glances import logged, random_sheet, some_inputs
from runlore.boxes import Box
from runlore.clauses import Clause
from runlore.errors import NoCell, TooMany
from runlore.kindsets import Kinds
from runlore.lore import Lore
from runlore.regions import Region
from runlore.sheets import Sheet
from runlore.tables import table, uncovered, witnesses
from runlore.terms import Literal
from runlore.treetexts import read_expression as text
from runlore.trees import Book
from runlore.values import Fault
from runlore.watcher import walked, watched

INTEGER, ATOM, TUPLE = Kinds.of('integer'), Kinds.of('atom'), Kinds.of('tuple')
T = ('t',)


def sheet_of(body, inputs=('t', 'u'), book=Book(())):
    return Sheet(book, inputs, (('n', text(body)),))


COUNT = sheet_of('( fold a 0 x ( read t ) ( plus a 1 ) )', ('t',))
MAX = sheet_of('( if ( most ( read t ) 0 ( read u ) ) ( read u ) ( read t ) )')


def results(clauses):
    return [str(clause.result) for clause in clauses]


class ExampleTest(unittest.TestCase):
    def test_document(self):
        t = table(COUNT, 'n', Box(2, 1))
        self.assertEqual((len(t), str(t[2].result), str(t[3].result), str(t[4].result)), (5, '2', 'fault kind', 'fault read'))
        self.assertEqual(witnesses(t, Box(2, 1))[1:], (
            {'t': (0,)}, {'t': (0, 0)}, {'t': 0}, {'t': Fault('read')}))


class TableTest(unittest.TestCase):
    def test_boxes(self):
        for box, found in (
                (Box(2, 1), ['0', '1', '2', 'fault kind', 'fault read']), (Box(0, 1), ['0', 'fault kind', 'fault read']),
                (Box(3, 0), ['fault kind', 'fault read']), (Box(0, 0), ['fault kind', 'fault read']),
                (Box(4, 4), ['0', '1', '2', '3', '4', 'fault kind', 'fault read'])):
            t = table(COUNT, 'n', box)
            self.assertIsInstance(t, tuple)
            self.assertEqual(results(t), found)

    def test_the_box_decides_no_glance(self):
        """A tuple in this box is empty, but a run that looks at its size still notes it."""
        self.assertEqual(table(COUNT, 'n', Box(0, 1))[0].notes, (
            ('read', 't', True), ('kind', T, 'tuple', True), ('size', T, 0)))
        t = table(sheet_of('( if ( is tuple ( part ( read t ) 0 ) ) 1 2 )'), 'n', Box(1, 1))
        self.assertEqual(results(t), ['fault part', '2', 'fault kind', 'fault read'])
        self.assertEqual(t[1].notes[-1], ('kind', ('t', 0), 'tuple', False))

    def test_without_reads(self):
        for body, found in (('5', '5'), ('( fail bad )', 'fault bad'), ('( tuple )', '( )')):
            t = table(sheet_of(body), 'n', Box(0, 0))
            self.assertEqual((results(t), t[0].notes), ([found], ()))

    def test_regions(self):
        for words, found in (
                ((), ['0', '1', '2', 'fault kind', 'fault read']),
                ([('kinds', T, TUPLE)], ['0', '1', '2']),
                ([('kinds', T, Kinds.sized(1))], ['1']),
                ([('kinds', T, TUPLE - Kinds.sized(1))], ['0', '2']),
                ([('kinds', T, Kinds.sized(3))], []),
                ([('kinds', T, Kinds.of('fault'))], ['fault read']),
                ([('kinds', T, INTEGER), ('kinds', T, ATOM)], []),
                ([('kinds', ('n',), INTEGER)], ['0', '1', '2', 'fault kind', 'fault read']),
                ([('kinds', ('n',), Kinds.sized(3))], [])):
            self.assertEqual(results(table(COUNT, 'n', Box(2, 1), region=Region(words))), found, words)

    def test_the_region_decides_no_glance(self):
        words = [('kinds', T, INTEGER), ('kinds', ('u',), INTEGER), ('tie', T, ('u',), -1)]
        t = table(MAX, 'n', Box(1, 1), region=Region(words))
        self.assertEqual(t, (watched(MAX, 'n', {'t': 1, 'u': 2}),))
        self.assertEqual(len(t[0].notes), 5)
        self.assertEqual(results(table(MAX, 'n', Box(1, 1), region=Region(words[:2]))), ['@u+0', '@t+0'])

    def test_regions_over_samenesses(self):
        s = sheet_of("( if ( alike ( read t ) ( read u ) ) ( if ( alike ( read t ) 'a ) 1 2 ) 3 )")
        region = Region([('kinds', T, ATOM), ('kinds', ('u',), ATOM), ('alike', T, 'a', True), ('alike', ('u',), 'b', False)])
        self.assertEqual(results(table(s, 'n', Box(0, 0), region=region)), ['1', '3'])
        self.assertEqual(results(table(s, 'n', Box(0, 0), region=region.with_word(('alike', ('u',), T, True)))), ['1'])

    def test_order(self):
        s = sheet_of('( if ( is integer ( read t ) ) ( if ( most ( read t ) 0 3 ) 1 2 ) ( part ( read t ) 1 ) )')
        t = table(s, 'n', Box(3, 1))
        self.assertEqual(results(t), ['1', '2', 'fault part', 'fault part', '@t.1', '@t.1', 'fault kind', 'fault read'])
        self.assertEqual(list(t), Lore(t[::-1]).clauses())

    def test_cells_are_read_as_names(self):
        s = Sheet(Book(()), ('t',), (('n', text('( plus ( read m ) 1 )')), ('m', ('read', 't'))))
        self.assertEqual(results(table(s, 'n', Box(0, 0))), ['@m+1', 'fault kind', 'fault read'])

    def test_most(self):
        for most in (1, 2, 4):
            with self.assertRaises(TooMany) as caught:
                table(COUNT, 'n', Box(2, 1), most=most)
            self.assertEqual(caught.exception.most, most)
        self.assertEqual(len(table(COUNT, 'n', Box(2, 1), most=5)), 5)
        self.assertEqual(len(table(sheet=COUNT, cell='n', box=Box(2, 1), region=None, most=10000)), 5)
        self.assertEqual(len(table(COUNT, 'n', Box(2, 1), region=Region([('kinds', T, Kinds.sized(1))]), most=1)), 1)
        pairs = sheet_of('( fold n 0 x ( read t ) ( fold m n y ( read u ) ( if ( most x 0 y ) ( plus m 1 ) m ) ) )')
        with self.assertRaises(TooMany) as caught:
            table(pairs, 'n', Box(3, 1))
        self.assertEqual(caught.exception.most, 400)
        self.assertEqual(len(table(pairs, 'n', Box(3, 1), most=508)), 508)

    def test_lacking_cells(self):
        for call in (lambda: table(COUNT, 't', Box(2, 1), most=1), lambda: uncovered(COUNT, 't', (), Box(2, 1), most=1)):
            with self.assertRaises(NoCell) as caught:
                call()
            self.assertEqual(caught.exception.name, 't')
        empty = Region([('kinds', T, INTEGER), ('kinds', T, ATOM)])
        with self.assertRaises(NoCell):
            table(COUNT, 'q', Box(2, 1), region=empty)

    def test_keywords_only(self):
        with self.assertRaises(TypeError):
            table(COUNT, 'n', Box(2, 1), None)
        with self.assertRaises(TypeError):
            uncovered(COUNT, 'n', (), Box(2, 1), 5)


class BranchTest(unittest.TestCase):
    """Runs that go several ways from inside of loops and calls."""

    def check(self, sheet, box, region=None, most=400):
        t = table(sheet, 'n', box, region=region, most=most)
        for clause, least in zip(t, witnesses(t, box)):
            self.assertEqual(watched(sheet, 'n', least), clause)
        return t

    def test_inside_of_loops(self):
        pairs = Region([('kinds', T, Kinds.sized(2))])
        for body, found in (
                ('( each x ( read t ) ( if ( is integer x ) ( plus x 1 ) x ) )',
                 ['( @t.0+1 @t.1+1 )', '( @t.0+1 @t.1 )', '( @t.0 @t.1+1 )', '( @t.0 @t.1 )']),
                ('( pick x ( read t ) ( is integer x ) )', ['( @t.0+0 @t.1+0 )', '( @t.0+0 )', '( @t.1+0 )', '( )']),
                ('( fold a 0 x ( read t ) ( if ( is integer x ) ( plus a 1 ) a ) )', ['2', '1', '1', '0']),
                ('( each y ( read t ) ( fold a 0 x ( tuple y 1 ) ( if ( is integer y ) ( plus a 1 ) a ) ) )',
                 ['( 2 2 )', '( 2 0 )', '( 0 2 )', '( 0 0 )'])):
            t = self.check(sheet_of(body), Box(2, 1), pairs)
            self.assertEqual(results(t), found, body)

    def test_inside_of_calls(self):
        f = ('f', ('p', 'q'), None, text("( if ( is integer ( read u ) ) ( tuple 1 ) ( tuple 2 ) )"))
        g = ('g', ('p',), None, ('join', ('call', 'f', (('name', 'p'), ('int', 1))), ('tuple', (('name', 'p'),))))
        s = Sheet(Book((f, g)), ('t', 'u'), (('n', ('tuple', (('call', 'g', (('read', 't'),)), ('read', 'u')))),))
        self.assertEqual(results(self.check(s, Box(1, 1))), ['( ( 1 @t ) @u+0 )', '( ( 2 @t ) @u )', 'fault read', 'fault read'])

    def test_work_before_and_behind_a_branch(self):
        """About 1,560 are counted for each of two tuples; a third one is too much."""
        def big(name, start):
            return (f'( fold {name} {start} {name}x ( tuple 1 1 1 1 1 1 1 1 ) '
                    f'( join {name} ( if ( is integer ( read t ) ) {name} {name} ) ) )')

        one = '( tuple 1 1 1 )'
        body = (f"( let one {big('a', one)} ( let two {big('b', one)} ( if ( is integer ( read u ) ) "
                f"( part one 7 ) ( part {big('d', one)} 7 ) ) ) )")
        sheet = sheet_of(body)
        t = self.check(sheet, Box(0, 0))
        self.assertEqual(results(t), ['1', 'fault long', 'fault read'] * 2 + ['fault read'])
        for given in ({'t': 0, 'u': 0}, {'t': 'a', 'u': 0}, {'t': 0, 'u': 'a'}):
            found = [clause for clause in t if given in clause]
            self.assertEqual(found[0](given), logged(sheet, 'n', given)[1])

    def test_work_of_loops_that_branch(self):
        """Each turn costs nearly as much as all runs that go on from it may still cost."""
        turn = '( if ( is integer x ) ( tuple ' + '1 ' * 100 + ') ( tuple ' + '2 ' * 100 + ') )'
        body = '( part ( each x ( read t ) ( fold a 0 y ( tuple ' + '1 ' * 8 + f') {turn} ) ) 0 )'
        for many, fault in ((3, False), (4, False), (5, True)):
            region = Region([('kinds', T, Kinds.sized(many))])
            t = self.check(sheet_of(body), Box(many, 1), region)
            self.assertEqual(len(t), 2 ** many)
            self.assertEqual({clause.result == Fault('long') for clause in t}, {fault})


class UncoveredTest(unittest.TestCase):
    def test_each_clause_lacking(self):
        box = Box(2, 1)
        t = table(COUNT, 'n', box)
        self.assertIsNone(uncovered(COUNT, 'n', t, box))
        self.assertIsNone(uncovered(COUNT, 'n', list(t[::-1]), box))
        self.assertIsNone(uncovered(COUNT, 'n', t + t, box, most=5))
        for at, least in enumerate(witnesses(t, box)):
            self.assertEqual(uncovered(COUNT, 'n', t[:at] + t[at + 1:], box), least)
            # The first one that is lacking counts.
            self.assertEqual(uncovered(sheet=COUNT, cell='n', clauses=t[:at], box=box), least)
        self.assertEqual(uncovered(COUNT, 'n', (), box), {'t': ()})

    def test_clauses_of_other_boxes_and_rules(self):
        big = table(COUNT, 'n', Box(4, 1))
        self.assertIsNone(uncovered(COUNT, 'n', big, Box(2, 1)))
        self.assertEqual(uncovered(COUNT, 'n', table(COUNT, 'n', Box(2, 1)), Box(4, 1)), {'t': (0, 0, 0)})
        other = table(sheet_of('( fold a 1 x ( read t ) ( plus a 1 ) )'), 'n', Box(2, 1))
        self.assertEqual(uncovered(COUNT, 'n', other, Box(2, 1)), {'t': ()})
        self.assertEqual(uncovered(COUNT, 'n', other, Box(2, 0)), None)
        self.assertIsNone(uncovered(COUNT, 'n', other + big, Box(2, 1)))
        self.assertIsNone(uncovered(COUNT, 'n', big + other, Box(2, 1)))
        short = Clause((('read', 't', True),), Literal(5))
        self.assertEqual(uncovered(COUNT, 'n', (short,), Box(0, 0)), {'t': 0})

    def test_most(self):
        box = Box(2, 1)
        with self.assertRaises(TooMany) as caught:
            uncovered(COUNT, 'n', (), box, most=4)
        self.assertEqual(caught.exception.most, 4)
        with self.assertRaises(TooMany):
            uncovered(COUNT, 'n', table(COUNT, 'n', box), box, most=4)

    def test_arguments_stay(self):
        clauses = list(table(COUNT, 'n', Box(2, 1)))
        before = list(clauses)
        uncovered(COUNT, 'n', clauses, Box(3, 1))
        self.assertEqual(clauses, before)


class WitnessTest(unittest.TestCase):
    def test_outside_of_the_box(self):
        t = table(COUNT, 'n', Box(3, 1))
        self.assertEqual(witnesses(t, Box(1, 1)), ({'t': ()}, {'t': (0,)}, None, None, {'t': 0}, {'t': Fault('read')}))
        self.assertEqual(witnesses(clauses=list(t), box=Box(3, 0)), (None, None, None, None, {'t': 0}, {'t': Fault('read')}))
        self.assertEqual(witnesses((), Box(1, 1)), ())

    def test_a_clause_without_a_member(self):
        none = Clause((('read', 't', True), ('kind', T, 'integer', True), ('kind', T, 'atom', True)), Literal(1))
        self.assertEqual(witnesses((none, Clause((), Literal(1))), Box(1, 1)), (None, {}))

    def test_ties(self):
        t = table(MAX, 'n', Box(0, 0))
        self.assertEqual(witnesses(t, Box(0, 0)), (
            {'t': 0, 'u': 0}, {'t': 0, 'u': -1}, {'t': 0, 'u': 'a'}, {'t': 'a', 'u': 0}, {'t': 0, 'u': Fault('read')},
            {'t': Fault('read')}))


class SearchTest(unittest.TestCase):
    """Tables against plain runs at many small inputs."""

    def test_random_rules(self):
        many = 0
        for seed in range(250):
            sheet = random_sheet(seed, 3)
            box = Box(seed % 3, (seed // 3) % 3)
            try:
                t = table(sheet, 'c', box, most=150)
            except TooMany:
                continue
            many += 1
            self.assertEqual(list(t), Lore(t).clauses())
            for clause, least in zip(t, witnesses(t, box)):
                self.assertTrue(all(box.fits(value) for value in least.values()))
                self.assertEqual(watched(sheet, 'c', least), clause)
                self.assertEqual(walked(sheet, 'c', clause.notes), clause)
            for given in some_inputs(seed, box, 12):
                found = [clause for clause in t if given in clause]
                self.assertEqual(found, [watched(sheet, 'c', given)])
                self.assertEqual(found[0](given), logged(sheet, 'c', given)[1])
            self.check_regions(sheet, box, t)
            self.check_uncovered(sheet, box, t, seed)
        self.assertGreater(many, 180)

    def check_regions(self, sheet, box, t):
        x, y = ('x',), ('y',)
        for words in (
                [('kinds', x, Kinds.present() - ATOM)], [('kinds', y, Kinds.sized(1)), ('kinds', ('y', 0), INTEGER)],
                [('kinds', x, INTEGER), ('kinds', y, INTEGER), ('tie', x, y, -1), ('tie', None, x, 0)],
                [('kinds', x, ATOM), ('alike', x, 'a', False)]):
            region = Region(words)
            want = [clause for clause in t if box.narrowed(clause.region & region)]
            self.assertEqual(list(table(sheet, 'c', box, region=region)), want)

    def check_uncovered(self, sheet, box, t, seed):
        self.assertIsNone(uncovered(sheet, 'c', t, box))
        at = seed % len(t)
        least = uncovered(sheet, 'c', t[:at] + t[at + 1:], box)
        self.assertEqual(least, box.narrowed(t[at].region).least)


if __name__ == '__main__':
    unittest.main()
