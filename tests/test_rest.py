"""Rest rules: promise [43]."""

import random
import unittest

from glances import LoggingView, random_sheet, some_inputs
from restwalk import NotRest, gone_along
from runlore.boxes import Box
from runlore.errors import NoCell, TooBig, TooMany
from runlore.kindsets import Kinds
from runlore.regions import Region
from runlore.rest import rest
from runlore.runner import finished, plain
from runlore.runs import run_to_end
from runlore.runstates import started
from runlore.sheets import Sheet
from runlore.tables import table
from runlore.treetexts import read_expression as text, show_expression
from runlore.trees import Book, all_trees, count, look_body
from runlore.values import Fault
from search import rich_words

X, Y, T = ('x',), ('y',), ('t',)
INTEGER, ATOM, TUPLE, FAULT = Kinds.of('integer'), Kinds.of('atom'), Kinds.of('tuple'), Kinds.of('fault')
ALL = Region()


def sheet_of(body, inputs=('t', 'x', 'y'), book=Book(())):
    return Sheet(book, inputs, (('c', text(body)),))


def kinds(*pairs):
    return Region([('kinds', place, kind) for place, kind in pairs])


def renamed_text(body):
    """The text of a body whose locals are called a, b, c .. in the order in which they are bound."""
    names = {}
    for tree in all_trees(body):
        for name in ((tree[1], tree[3]) if tree[0] == 'fold' else (tree[1],) if tree[0] in ('let', 'each', 'pick') else ()):
            assert name not in names
            names[name] = 'abcdefghijklmnopqrstuvw'[len(names)] * 8

    def again(tree):
        if tree[0] == 'name':
            return ('name', names[tree[1]])
        items = [again(item) if isinstance(item, tuple) and item and isinstance(item[0], str) else item for item in tree]
        items = [tuple(again(one) for one in item) if isinstance(item, tuple) and item and isinstance(item[0], tuple) else item
                 for item in items]
        if tree[0] in ('let', 'each', 'pick', 'fold'):
            items[1] = names[tree[1]]
        if tree[0] == 'fold':
            items[3] = names[tree[3]]
        return tuple(items)

    words = show_expression(again(body))
    for letter in 'abcdefghijklmnopqrstuvw':
        words = words.replace(letter * 8, letter.upper())
    return words


COUNT = sheet_of('( fold n 0 z ( read t ) ( plus n 1 ) )')
MAX = sheet_of('( if ( most ( read x ) 0 ( read y ) ) ( read y ) ( read x ) )')
OWN_COUNT = '( fold {} 0 {} ( read t ) ( plus {} 1 ) )'


class RestTest(unittest.TestCase):
    def body(self, sheet, region, box, **more):
        """The text of the rest rule; the body is held against the cell's own one."""
        body = rest(sheet, 'c', region, box, **more)
        self.assertTrue(look_body(sheet.book, body))
        sheet.rewritten('c', body)
        chance = random.Random(5)
        for seed in range(3):
            pool = [{**{name: chance.choice((0, 1, 5, 'a', (), (1,), (1, 2), ('a',), ((),), Fault('bad'))) for name in sheet.inputs}, 'c': 0}
                    for _ in range(30)]
            hold(self, sheet, region, box, body, pool)
        return renamed_text(body)

    def test_nothing_known(self):
        self.assertEqual(self.body(COUNT, ALL, Box(2, 1)), (
            '( let A ( read t ) ( if ( is tuple A ) ( if ( sized A 0 ) 0 ( if ( sized A 1 ) 1 ( if ( sized A 2 ) 2 '
            + OWN_COUNT.format('B', 'C', 'B') + ' ) ) ) ( fail kind ) ) )'))
        self.assertEqual(self.body(MAX, ALL, Box(0, 0)), (
            '( let A ( read x ) ( let B ( read y ) ( if ( is integer A ) ( if ( is integer B ) '
            '( if ( most A 0 B ) B A ) ( fail kind ) ) ( fail kind ) ) ) )'))

    def test_one_kind(self):
        self.assertEqual(self.body(COUNT, kinds((T, INTEGER)), Box(2, 1)), '( let A ( read t ) ( fail kind ) )')
        self.assertEqual(self.body(COUNT, kinds((T, INTEGER | FAULT)), Box(2, 1)), '( let A ( read t ) ( fail kind ) )')
        self.assertEqual(self.body(MAX, kinds((X, INTEGER), (Y, INTEGER)), Box(0, 0)), (
            '( let A ( read x ) ( let B ( read y ) ( if ( most A 0 B ) B A ) ) )'))
        self.assertEqual(self.body(MAX, kinds((X, INTEGER)), Box(0, 0)), (
            '( let A ( read x ) ( let B ( read y ) ( if ( is integer B ) ( if ( most A 0 B ) B A ) ( fail kind ) ) ) )'))
        self.assertEqual(self.body(COUNT, kinds((T, INTEGER | Kinds.sized(1))), Box(2, 1)), (
            '( let A ( read t ) ( if ( is tuple A ) 1 ( fail kind ) ) )'))

    def test_one_size(self):
        self.assertEqual(self.body(COUNT, kinds((T, Kinds.sized(2))), Box(2, 1)), '( let A ( read t ) 2 )')
        parts = kinds((T, Kinds.sized(2)), (('t', 0), INTEGER))
        s = sheet_of('( if ( most ( part ( read t ) 0 ) 3 ( part ( read t ) 1 ) ) ( part ( read t ) 0 ) 0 )')
        self.assertEqual(self.body(s, parts, Box(2, 1)), (
            '( let A ( read t ) ( if ( is integer ( part A 1 ) ) ( if ( most ( part A 0 ) 3 ( part A 1 ) ) ( part A 0 ) 0 ) ( fail kind ) ) )'))

    def test_several_sizes(self):
        sizes = TUPLE - Kinds.sized(1)
        self.assertEqual(self.body(COUNT, kinds((T, sizes)), Box(2, 1)), (
            '( let A ( read t ) ( if ( sized A 0 ) 0 ( if ( sized A 2 ) 2 ' + OWN_COUNT.format('B', 'C', 'B') + ' ) ) )'))
        known = Kinds.sized(0) | Kinds.sized(2) | Kinds.sized(1)
        self.assertEqual(self.body(COUNT, kinds((T, known)), Box(2, 1)), (
            '( let A ( read t ) ( if ( sized A 0 ) 0 ( if ( sized A 1 ) 1 2 ) ) )'))
        self.assertEqual(self.body(COUNT, kinds((T, known | Kinds.sized(4))), Box(2, 1)), (
            '( let A ( read t ) ( if ( sized A 0 ) 0 ( if ( sized A 1 ) 1 ( if ( sized A 2 ) 2 ' + OWN_COUNT.format('B', 'C', 'B') + ' ) ) ) )'))

    def test_sized(self):
        s = sheet_of('( if ( sized ( read t ) 1 ) 5 ( if ( sized ( read t ) 2 ) 6 7 ) )')
        self.assertEqual(self.body(s, ALL, Box(2, 1)), (
            '( let A ( read t ) ( if ( is tuple A ) ( if ( sized A 1 ) 5 ( if ( sized A 2 ) 6 7 ) ) ( fail kind ) ) )'))
        self.assertEqual(self.body(s, kinds((T, Kinds.sized(1) | Kinds.sized(2))), Box(2, 1)), '( let A ( read t ) ( if ( sized A 1 ) 5 6 ) )')
        # In this box no tuple has two parts, but in the region some have.
        own = '( if ( sized ( read t ) 1 ) 5 ( if ( sized ( read t ) 2 ) 6 7 ) )'
        self.assertEqual(self.body(s, kinds((T, TUPLE)), Box(1, 1)), f'( let A ( read t ) ( if ( sized A 1 ) 5 ( if ( sized A 2 ) {own} 7 ) ) )')

    def test_ties_and_samenesses(self):
        s = sheet_of("( if ( alike ( read x ) ( read y ) ) ( if ( alike ( read x ) 'red ) 1 2 ) ( read y ) )")
        self.assertEqual(self.body(s, kinds((X, ATOM), (Y, ATOM)), Box(0, 0)), (
            "( let A ( read x ) ( let B ( read y ) ( if ( alike A B ) ( if ( alike A 'red ) 1 2 ) B ) ) )"))
        same = kinds((X, ATOM), (Y, ATOM)).with_word(('alike', X, Y, True))
        self.assertEqual(self.body(s, same, Box(0, 0)), "( let A ( read x ) ( let B ( read y ) ( if ( alike A 'red ) 1 2 ) ) )")
        ties = sheet_of('( if ( most ( read x ) 3 ( read y ) ) ( if ( most 7 0 ( read x ) ) ( plus ( read y ) -2 ) ( plus ( read y ) 0 ) ) ( fail bad ) )')
        both = kinds((X, INTEGER), (Y, INTEGER))
        self.assertEqual(self.body(ties, both, Box(0, 0)), (
            '( let A ( read x ) ( let B ( read y ) ( if ( most A 3 B ) ( if ( most 0 7 A ) ( plus B -2 ) B ) ( fail bad ) ) ) )'))
        self.assertEqual(self.body(ties, both.with_word(('tie', X, Y, -3)), Box(0, 0)), (
            '( let A ( read x ) ( let B ( read y ) ( if ( most 0 7 A ) ( plus B -2 ) B ) ) )'))
        self.assertEqual(self.body(ties, both.with_word(('tie', Y, None, 9)), Box(0, 0)), (
            '( let A ( read x ) ( let B ( read y ) ( if ( most A 3 B ) B ( fail bad ) ) ) )'))

    def test_results(self):
        s = sheet_of("( tuple ( plus ( read x ) 2 ) 'red 7 ( tuple ) ( read t ) ( tuple ( read y ) ) )")
        self.assertEqual(self.body(s, kinds((X, INTEGER), (T, Kinds.sized(1))), Box(1, 1)), (
            "( let A ( read x ) ( let B ( read t ) ( let C ( read y ) ( tuple ( plus A 2 ) 'red 7 ( tuple ) B ( tuple C ) ) ) ) )"))
        for body, found in (('5', '5'), ("'red", "'red"), ('( tuple )', '( tuple )'), ('( fail bad )', '( fail bad )'), ('( plus ( tuple ) 1 )', '( fail kind )'),
                            ('( each z ( tuple 1 2 ) ( tuple z ) )', '( tuple ( tuple 1 ) ( tuple 2 ) )'), ('( read x )', '( let A ( read x ) A )')):
            self.assertEqual(self.body(sheet_of(body), ALL, Box(1, 1)), found)
        parts = sheet_of('( each z ( read t ) z )')
        self.assertEqual(self.body(parts, kinds((T, Kinds.sized(2))), Box(2, 2)), '( let A ( read t ) ( tuple ( part A 0 ) ( part A 1 ) ) )')

    def test_cells_and_reach(self):
        s = Sheet(Book(()), ('x',), (('c', text('( reach ( read d ) )')), ('d', ('int', 1))))
        alike = kinds((('d',), ATOM)).with_word(('alike', ('d',), 'x', True))
        self.assertEqual(self.body(s, alike, Box(0, 0)), '( let A ( read d ) ( let B ( read x ) B ) )')
        self.assertEqual(self.body(s, alike & kinds((X, INTEGER)), Box(0, 0)), '( let A ( read d ) ( let B ( read x ) B ) )')

    def test_reads_that_only_have_faults(self):
        region = kinds((T, FAULT))
        body = rest(COUNT, 'c', region, Box(2, 1))
        for fault in (Fault('read'), Fault('bad')):
            self.assertEqual(plain(COUNT.book, body, {'t': fault}), Fault('read'))
        self.assertEqual([tree for tree in all_trees(body) if tree[0] == 'read'], [('read', 't')])
        later = sheet_of('( tuple ( read x ) ( read t ) ( read y ) )')
        self.assertEqual(self.body(later, region, Box(2, 1)).count('( read'), 2)

    def test_an_empty_table(self):
        own = COUNT.body('c')
        for region in (kinds((T, INTEGER), (T, ATOM)), kinds((T, Kinds.sized(3)))):
            self.assertEqual(table(COUNT, 'c', Box(2, 1), region=region), ())
            self.assertEqual(rest(COUNT, 'c', region, Box(2, 1)), own)
        self.assertEqual(rest(COUNT, 'c', kinds((T, TUPLE)), Box(2, 0)), own)

    def test_outcomes_that_are_not_in_the_table(self):
        self.assertEqual(self.body(COUNT, ALL, Box(3, 0)), (
            '( let A ( read t ) ( if ( is tuple A ) ' + OWN_COUNT.format('B', 'C', 'B') + ' ( fail kind ) ) )'))
        region = kinds((T, FAULT | Kinds.sized(4)))
        self.assertEqual(self.body(COUNT, region, Box(2, 1)), '( let A ( read t ) ' + OWN_COUNT.format('B', 'C', 'B') + ' )')
        deep = sheet_of('( each z ( read t ) ( if ( is tuple z ) ( fold n 0 w z ( plus n 1 ) ) z ) )')
        found = self.body(deep, kinds((T, Kinds.sized(2))), Box(2, 1))
        own = '( each {} ( read t ) ( if ( is tuple {} ) ( fold {} 0 {} {} ( plus {} 1 ) ) {} ) )'
        self.assertEqual(found, (
            '( let A ( read t ) ( if ( is tuple ( part A 0 ) ) ' + own.format(*'BBCDBCB') + ' ( if ( is tuple ( part A 1 ) ) '
            + own.format(*'EEFGEFE') + ' ( tuple ( part A 0 ) ( part A 1 ) ) ) ) )'))

    def test_equal_branches(self):
        s = sheet_of('( if ( most ( read x ) 0 3 ) 5 ( if ( most ( read x ) 0 5 ) 5 ( fail kind ) ) )')
        self.assertEqual(self.body(s, kinds((X, INTEGER)), Box(0, 0)), '( let A ( read x ) ( if ( most A -3 0 ) 5 ( if ( most A -5 0 ) 5 ( fail kind ) ) ) )')
        self.assertEqual(self.body(s, kinds((X, INTEGER)).with_word(('tie', X, None, 5)), Box(0, 0)), '( let A ( read x ) 5 )')
        # The fault of a wrong kind and the one that is told are equal; so the tests around them go, too.
        low = kinds((X, Kinds.present()))
        self.assertEqual(self.body(sheet_of('( if ( most ( read x ) 0 3 ) ( fail kind ) ( fail kind ) )'), low, Box(0, 0)), '( let A ( read x ) ( fail kind ) )')
        sizes = sheet_of('( if ( sized ( read t ) 4 ) 1 ( if ( is tuple ( read t ) ) 2 3 ) )')
        self.assertEqual(self.body(sizes, kinds((T, TUPLE - Kinds.sized(4))), Box(2, 1)), '( let A ( read t ) 2 )')
        same = sheet_of('( let n ( fold a 0 z ( read t ) 7 ) 5 )')
        self.assertEqual(self.body(same, kinds((T, Kinds.sized(0) | Kinds.sized(1) | Kinds.sized(2))), Box(2, 1)), '( let A ( read t ) 5 )')

    def test_locals_are_bound_once(self):
        s = sheet_of('( let p ( read x ) ( let q ( read y ) ( each z ( read t ) ( if ( is integer p ) ( tuple p z ) q ) ) ) )')
        for box in (Box(0, 0), Box(1, 0), Box(2, 1), Box(2, 2)):
            self.body(s, ALL, box)
            self.body(s, kinds((T, TUPLE)), box)
        book = Book((('f', ('p',), None, ('tuple', (('name', 'p'), ('name', 'p')))),))
        self.body(sheet_of('( call f ( call f ( fold p 0 f ( read t ) f ) ) )', book=book), ALL, Box(1, 1))

    def test_four_hundred_trees_and_one_more(self):
        def rows(many):
            return '( each z ( tuple ' + ' '.join(['1'] * many) + ' ) ( tuple ' + ' '.join(['1'] * 18) + ' ) )'

        found = rest(sheet_of(rows(21)), 'c', ALL, Box(0, 0))
        self.assertEqual((count(found), len(found[1])), (400, 21))
        with self.assertRaises(TooBig) as caught:
            rest(sheet_of(f'( join {rows(21)} ( tuple 1 ) )'), 'c', ALL, Box(0, 0))
        self.assertEqual(caught.exception.most, 400)
        # Two branches of equal trees count once; a let and its read count, too.
        twice = '( if ( is atom ( read x ) ) ( let p {} p ) {} )'
        for one, fits in ((rows(20), True), (rows(21), False)):
            s = sheet_of(twice.format(one, one.replace(' z ', ' q ')))
            if fits:
                self.assertEqual(count(rest(s, 'c', ALL, Box(0, 0))), 2 + 381)
            else:
                with self.assertRaises(TooBig):
                    rest(s, 'c', ALL, Box(0, 0))
        for many, fits in ((14, True), (15, False)):
            s = sheet_of(f'( if ( is atom ( read x ) ) {rows(20)} ( tuple {" ".join(["1"] * (many - 1))} ) )')
            if fits:
                self.assertEqual(count(rest(s, 'c', ALL, Box(0, 0))), 400)
            else:
                with self.assertRaises(TooBig):
                    rest(s, 'c', ALL, Box(0, 0))

    def test_great_own_bodies(self):
        tree = ('int', 1)
        for _ in range(300):
            tree = ('plus', tree, 1)
        s = Sheet(Book(()), ('t',), (('c', ('if', ('is', 'tuple', ('read', 't')), tree, ('int', 0))),))
        self.assertEqual(rest(s, 'c', kinds((T, TUPLE)), Box(0, 0)), s.body('c'))
        big = s.rewritten('c', ('tuple', (s.body('c'),) * 2))
        with self.assertRaises(TooBig):
            rest(big, 'c', kinds((T, TUPLE)), Box(0, 0))
        self.assertEqual(rest(s, 'c', ALL, Box(0, 0))[3][2][0], 'if')

    def test_errors(self):
        for cell in ('x', 'q'):
            with self.assertRaises(NoCell) as caught:
                rest(COUNT, cell, kinds((T, INTEGER), (T, ATOM)), Box(2, 1), most=1)
            self.assertEqual(caught.exception.name, cell)
        with self.assertRaises(TooMany) as caught:
            rest(sheet=COUNT, cell='c', region=ALL, box=Box(2, 1), most=4)
        self.assertEqual(caught.exception.most, 4)
        self.assertEqual(rest(COUNT, 'c', ALL, Box(2, 1), most=5), rest(COUNT, 'c', ALL, Box(2, 1)))
        # That there are too many clauses counts before that the body is too big.
        pairs = sheet_of('( fold n 0 z ( read t ) ( fold m n w ( read x ) ( if ( most z 0 w ) ( plus m 1 ) m ) ) )')
        with self.assertRaises(TooMany) as caught:
            rest(pairs, 'c', ALL, Box(3, 1))
        self.assertEqual(caught.exception.most, 400)
        with self.assertRaises(TooBig):
            rest(pairs, 'c', ALL, Box(3, 1), most=508)
        with self.assertRaises(TypeError):
            rest(COUNT, 'c', ALL, Box(2, 1), 5)


def reads_of(sheet, body, given):
    """The names that a plain run reads, each once, and what it returns."""
    view = LoggingView(sheet.names, given)
    run = started(sheet.book, body, 'c', view)
    run_to_end(run)
    names = list(dict.fromkeys(entry[0] for entry in view.log if isinstance(entry, tuple)))
    return names, finished(run.stack[-1]) if run.fault is None else run.fault


def hold(test, sheet, region, box, body, pool):
    """Holds a rest rule against the cell's own body at inputs; returns how many of them are in the region."""
    many = 0
    covered = table(sheet, 'c', box, region=region)
    for given in pool:
        if given not in region:
            continue
        many += 1
        own = reads_of(sheet, sheet.body('c'), given)
        test.assertEqual(reads_of(sheet, body, given), own, given)
        if covered and all(box.fits(value) for value in given.values()):
            try:
                reads, leaf = gone_along(body, region, given)
            except NotRest:
                test.fail(f'a loop or a call at {given}')
            test.assertTrue(leaf is None or leaf[0] not in ('each', 'pick', 'fold', 'call'))
            if leaf is not None:
                test.assertEqual(reads, own[0])
    return many


class SearchTest(unittest.TestCase):
    def test_random_rules(self):
        met = done = 0
        for seed in range(500):
            sheet, chance = random_sheet(seed, 3), random.Random(seed)
            region = Region(rich_words(chance, chance.randint(0, 3))) if seed % 3 else ALL
            box = Box(seed % 3, (seed // 3) % 3)
            try:
                body = rest(sheet, 'c', region, box, most=150)
                found = table(sheet, 'c', box, region=region, most=150)
            except (TooMany, TooBig):
                continue
            self.assertLessEqual(count(body), 400)
            sheet.rewritten('c', body)
            least = [(clause.region & region) for clause in found]
            pool = some_inputs(seed, box, 10) + some_inputs(seed, Box(3, 3), 10)
            pool += [{'x': 0, 'y': 0, 'c': 0, **box.narrowed(one).least} for one in least]
            met += hold(self, sheet, region, box, body, pool)
            done += 1
        self.assertGreater(min(met // 4, done), 400)


if __name__ == '__main__':
    unittest.main()
