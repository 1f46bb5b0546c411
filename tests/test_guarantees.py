"""Promises [2] to [4] over sheets, watching runs, lore, tables and comparisons."""

import copy
import unittest

from glances import random_sheet, some_inputs
from runlore.boxes import Box
from runlore.errors import LoreError, NoBook, NoNote, NoSheet, TooMany
from runlore.lore import Lore
from runlore.regions import Region
from runlore.sameness import same
from runlore.sheets import Sheet
from runlore.tables import table, uncovered, witnesses
from runlore.terms import Shifted, Whole
from runlore.treetexts import read_expression, show_expression
from runlore.trees import Book, children, count, look_body, subtree
from runlore.values import Fault
from runlore.watcher import walked, watched

BODY = read_expression('( if ( most ( read x ) 0 ( read y ) ) ( tuple ( read y ) ) ( each z ( read x ) z ) )')
SHEET = Sheet(Book(()), ('x', 'y'), (('c', BODY), ('d', ('read', 'c'))))
BOX = Box(2, 1)
GIVEN = {'x': 3, 'y': 5}
CLAUSE = watched(SHEET, 'c', GIVEN)


def all_calls():
    """Calls of everything, with arguments by position and by name; each pair must tell the same."""
    lore = Lore((CLAUSE,))
    t = table(SHEET, 'c', BOX)
    return (
        (lambda: children(BODY), lambda: children(tree=BODY)),
        (lambda: subtree(BODY, (2, 1, 0)), lambda: subtree(tree=BODY, path=(2, 1, 0))),
        (lambda: count(BODY), lambda: count(tree=BODY)),
        (lambda: look_body(Book(()), BODY), lambda: look_body(book=Book([]), body=BODY, name='c')),
        (lambda: show_expression(BODY), lambda: show_expression(tree=BODY)),
        (lambda: read_expression('( read x )'), lambda: read_expression(text='( read x )')),
        (lambda: BOX.kinds(('x',)), lambda: Box(size=2, depth=1).kinds(place=('x',))),
        (lambda: BOX.fits((1,)), lambda: BOX.fits(value=(1,))),
        (lambda: BOX.narrowed(CLAUSE.region), lambda: BOX.narrowed(region=CLAUSE.region)),
        (lambda: list(BOX.all_inputs(('x',), (1,), ('a',), faults=True)),
         lambda: list(BOX.all_inputs(names=('x',), integers=(1,), atoms=('a',), faults=True))),
        (lambda: SHEET.answer('c', GIVEN), lambda: SHEET.answer(cell='c', given=GIVEN)),
        (lambda: SHEET.answers(GIVEN), lambda: SHEET.answers(given=GIVEN)),
        (lambda: SHEET.knots(GIVEN), lambda: SHEET.knots(given=GIVEN)),
        (lambda: SHEET.body('c'), lambda: SHEET.body(name='c')),
        (lambda: SHEET.rewritten('d', BODY), lambda: SHEET.rewritten(name='d', body=BODY)),
        (lambda: watched(SHEET, 'c', GIVEN), lambda: watched(sheet=SHEET, cell='c', given=GIVEN)),
        (lambda: walked(SHEET, 'c', CLAUSE.notes), lambda: walked(sheet=SHEET, cell='c', notes=CLAUSE.notes)),
        (lambda: lore.walk(GIVEN), lambda: lore.walk(inputs=GIVEN)),
        (lambda: lore.learn(CLAUSE), lambda: lore.learn(clause=CLAUSE)),
        (lambda: lore.clauses(), lambda: Lore(clauses=[CLAUSE]).clauses()),
        (lambda: table(SHEET, 'c', BOX), lambda: table(sheet=SHEET, cell='c', box=BOX, region=None, most=400)),
        (lambda: uncovered(SHEET, 'c', t[1:], BOX), lambda: uncovered(sheet=SHEET, cell='c', clauses=t[1:], box=BOX)),
        (lambda: witnesses(t, BOX), lambda: witnesses(clauses=t, box=BOX)),
        (lambda: same(SHEET, 'c', SHEET, 'd', BOX),
         lambda: same(sheet=SHEET, cell='c', other=SHEET, other_cell='d', box=BOX)))


class CallTest(unittest.TestCase):
    def test_the_same_call_tells_the_same(self):
        for _ in range(2):
            for one, other in all_calls():
                first = one()
                self.assertEqual(first, other())
                self.assertEqual(first, one())
                self.assertIs(type(first), type(other()))

    def test_arguments_stay(self):
        given = {'x': (1, (2,)), 'y': Fault('bad')}
        before = copy.copy(given)
        clause = watched(SHEET, 'c', given)
        watched(SHEET, 'd', {'c': 1})
        SHEET.answers({'x': 1})
        Lore([clause]).walk(given)
        BOX.fits(given['x'])
        self.assertEqual(given, before)
        clauses = [clause]
        uncovered(SHEET, 'c', clauses, BOX)
        witnesses(clauses, BOX)
        Lore(clauses).forget(clause)
        self.assertEqual(clauses, [clause])

    def test_later_changes_have_no_effect(self):
        given = {'x': 3, 'y': 5}
        clause = watched(SHEET, 'c', given)
        given['x'] = 'a'
        self.assertEqual(clause, CLAUSE)
        words = list(CLAUSE.region.words)
        region = Region(words)
        words.clear()
        self.assertEqual(len(table(SHEET, 'c', BOX, region=region)), 1)

    def test_returned_lists_and_dicts_are_new(self):
        SHEET.answers(GIVEN).clear()
        self.assertEqual(SHEET.answers(GIVEN), {'c': (5,), 'd': (5,)})
        found = witnesses((CLAUSE,), BOX)
        found[0].clear()
        self.assertEqual(witnesses((CLAUSE,), BOX), ({'x': 0, 'y': 0},))
        lore = Lore((CLAUSE,))
        lore.clauses().append(5)
        self.assertEqual(lore.clauses(), [CLAUSE])

    def test_the_order_of_keys_means_nothing(self):
        self.assertEqual(watched(SHEET, 'c', {'y': 5, 'x': 3}), CLAUSE)
        self.assertEqual(SHEET.answers({'y': 5, 'x': 3}), SHEET.answers(GIVEN))
        self.assertEqual(Lore((CLAUSE,)).walk({'y': 5, 'x': 3}), (CLAUSE.notes, CLAUSE))

    def test_booleans_are_no_integers(self):
        for body in (('int', True), ('plus', ('int', 1), False), ('part', ('tuple', ()), True)):
            with self.assertRaises(NoBook):
                look_body(Book(()), body)
            with self.assertRaises(NoSheet):
                Sheet(Book(()), (), (('c', body),))
        with self.assertRaises(NoBook):
            Book((('f', ('x',), False, ('name', 'x')),))
        one = Sheet(Book(()), ('x',), (('c', read_expression('( if ( most ( read x ) 0 1 ) 1 ( part ( read x ) 1 ) )')),))
        start = (('read', 'x', True), ('kind', ('x',), 'integer', True))
        for bad in (('tie', ('x',), None, True, True), ('tie', ('x',), None, 1, 1)):
            with self.assertRaises(NoNote) as caught:
                walked(one, 'c', (*start, bad))
            self.assertEqual(caught.exception.at, 2)

    def test_what_tells_whether_something_is_so(self):
        lore = Lore((CLAUSE,))
        for told in (BOX.fits(1), look_body(Book(()), BODY), lore.learn(CLAUSE), CLAUSE in lore, GIVEN in CLAUSE,
                     SHEET == SHEET, lore == lore, Book(()) == 5, SHEET == 5, lore == 5, lore.forget(CLAUSE)):
            self.assertIn(told, (True, False))
            self.assertIsInstance(told, bool)


class BoundTest(unittest.TestCase):
    """What the bounds allow, and somewhat more."""

    def test_great_integers(self):
        big = 1000000000
        s = Sheet(Book(()), ('x', 'y'), (('c', read_expression('( if ( most ( read x ) -1000000 ( read y ) ) 1 ( read y ) )')),))
        for x, y in ((big, -big), (-big, big), (big, big - 1000000), (big, big - 1000001), (big + 2, -big - 2)):
            clause = watched(s, 'c', {'x': x, 'y': y})
            self.assertEqual(clause.notes[-1][3:], (1000000, x - y <= 1000000))
            self.assertEqual(clause({'x': x, 'y': y}), s.answer('c', {'x': x, 'y': y}))

    def test_deep_values(self):
        deep = 1
        for _ in range(8):
            deep = (deep,)
        s = Sheet(Book(()), ('x',), (('c', ('plus', parted(('read', 'x'), 8), 1)),))
        clause = watched(s, 'c', {'x': deep})
        self.assertEqual((len(clause.notes), clause.result), (1 + 2 * 8 + 1, Shifted(('x', *(0,) * 8), 1)))
        self.assertEqual(clause({'x': deep}), 2)
        for _ in range(300):
            deep = (deep,)
        s = Sheet(Book(()), ('x',), (('c', read_expression('( tuple ( read x ) )')),))
        self.assertEqual(watched(s, 'c', {'x': deep}).result, watched(s, 'c', {'x': 1}).result)
        self.assertFalse(Box(4, 4).fits(deep))

    def test_a_whole_sheet(self):
        names = ('a', 'b', 'e', 'f', 'g', 'h')
        cells = tuple((f'c{"stuvwxyz"[at]}', read_expression(
            f'( tuple ( read {names[at % 6]} ) ( if ( is integer ( read {names[(at + 1) % 6]} ) ) 1 2 ) )')) for at in range(8))
        s = Sheet(Book(()), names, cells)
        given = {name: at for at, name in enumerate(names)}
        self.assertEqual(s.answers(given), {f'c{"stuvwxyz"[at]}': (at % 6, 1) for at in range(8)})

    def test_most_is_kept(self):
        s = Sheet(Book(()), ('x',), (('c', ('read', 'x')),))
        with self.assertRaises(LoreError):
            table(s, 'c', BOX, most=1)
        with self.assertRaises(TooMany):
            same(s, 'c', s, 'c', BOX, most=1)
        self.assertEqual(len(table(s, 'c', BOX, most=10000)), 2)


def parted(tree, many):
    for _ in range(many):
        tree = ('part', tree, 0)
    return tree


class GuaranteeTest(unittest.TestCase):
    def test_two_clauses_have_no_common_input(self):
        for seed in range(60):
            sheet = random_sheet(seed, 3)
            clauses = []
            for given in some_inputs(seed, BOX, 15):
                clause = watched(sheet, 'c', given)
                if clause not in clauses:
                    clauses.append(clause)
            for at, one in enumerate(clauses):
                for other in clauses[:at]:
                    self.assertFalse(one.region & other.region)

    def test_what_was_asked_first_does_not_matter(self):
        ring = Sheet(Book(()), ('i',), (
            ('a', ('read', 'b')), ('b', read_expression('( if ( is atom ( read i ) ) ( read c ) 1 )')),
            ('c', ('read', 'b')), ('d', ('tuple', (('read', 'c'), ('read', 'a'))))))
        for i, want in (('x', ('read', 'knot', 'knot', 'read')), (1, (1, 1, 1, (1, 1)))):
            found = tuple(ring.answer(name, {'i': i}) for name in 'abcd')
            self.assertEqual(tuple(one.word if isinstance(one, Fault) else one for one in found), want)
            self.assertEqual(tuple(ring.answers({'i': i})[name] for name in 'abcd'), found)
            self.assertEqual(ring.knots({'i': i}), (('b', 'c'),) if i == 'x' else ())

    def test_terms_of_clauses(self):
        self.assertEqual(watched(SHEET, 'd', {'c': ()}).result, Whole(('c',)))


if __name__ == '__main__':
    unittest.main()
