"""Preimages: promise [38]."""

import random
import unittest

from glances import logged, random_sheet, some_inputs
from runlore.boxes import Box
from runlore.errors import NoCell, TooMany
from runlore.kindsets import Kinds
from runlore.preimages import preimage
from runlore.regions import Region
from runlore.sheets import Sheet
from runlore.tables import table
from runlore.treetexts import read_expression as text
from runlore.trees import Book
from runlore.values import Fault

ANSWER, X, Y = ('answer',), ('x',), ('y',)
INTEGER, ATOM, TUPLE, FAULT = Kinds.of('integer'), Kinds.of('atom'), Kinds.of('tuple'), Kinds.of('fault')


def sheet_of(body, inputs=('x', 'y')):
    return Sheet(Book(()), inputs, (('c', text(body)),))


def integers(*ties):
    return Region([('kinds', ANSWER, INTEGER)] + [('tie', *tie) for tie in ties])


MAX = sheet_of('( if ( most ( read x ) 0 ( read y ) ) ( read y ) ( read x ) )')


class PreimageTest(unittest.TestCase):
    def words(self, sheet, goal, box=Box(2, 1)):
        found = preimage(sheet, 'c', goal, box)
        self.assertIsInstance(found, tuple)
        return [region.words for region in found]

    def test_values(self):
        both = (('kinds', X, INTEGER), ('kinds', Y, INTEGER))
        found = self.words(MAX, integers((ANSWER, None, 3)))
        self.assertEqual(found, [
            both + (('tie', X, None, 3), ('tie', X, Y, 0), ('tie', Y, None, 3)),
            both + (('tie', X, None, 3), ('tie', Y, None, 2), ('tie', Y, X, -1))])
        self.assertEqual(self.words(MAX, integers((ANSWER, None, 3), (None, ANSWER, -5))), [])

    def test_one_for_each_clause_in_the_order_of_the_table(self):
        found = preimage(MAX, 'c', Region(), Box(2, 1))
        self.assertEqual(found, tuple(clause.region for clause in table(MAX, 'c', Box(2, 1))))

    def test_faults(self):
        found = self.words(MAX, Region([('kinds', ANSWER, FAULT)]))
        kind, read = Kinds.present() - INTEGER, FAULT
        # Both are read, then looked at: the fault of y comes before the kind of x.
        self.assertEqual(found, [
            (('kinds', X, INTEGER), ('kinds', Y, kind)), (('kinds', X, kind), ('kinds', Y, Kinds.present())),
            (('kinds', X, Kinds.present()), ('kinds', Y, read)), (('kinds', X, read),)])
        self.assertEqual(len(self.words(MAX, Region([('kinds', ANSWER, FAULT | INTEGER)]))), 6)
        self.assertEqual(self.words(sheet_of('( fail bad )'), Region([('kinds', ANSWER, FAULT)])), [()])
        self.assertEqual(self.words(sheet_of('( fail bad )'), Region([('kinds', ANSWER, Kinds.present())])), [])

    def test_goals_without_a_member(self):
        for words in ([('kinds', ANSWER, INTEGER), ('kinds', ANSWER, ATOM)],
                      [('kinds', ANSWER, INTEGER), ('tie', ANSWER, ANSWER, -1)],
                      [('kinds', ANSWER, INTEGER), ('tie', ANSWER, None, 1), ('tie', None, ANSWER, -2)]):
            self.assertEqual(preimage(MAX, 'c', Region(words), Box(2, 1)), ())

    def test_an_input_that_is_called_answer(self):
        s = sheet_of('( if ( most ( read answer ) 0 ( read x ) ) ( plus ( read answer ) 2 ) ( read x ) )', ('answer', 'x'))
        found = preimage(s, 'c', integers((ANSWER, None, 5)), Box(0, 0))
        self.assertEqual(len(found), 2)
        for answer in range(-1, 9):
            for x in range(-1, 9):
                given = {'answer': answer, 'x': x}
                self.assertEqual(any(given in region for region in found), s.answer('c', given) <= 5)
        same = sheet_of("( tuple ( read answer ) ( read answer ) )", ('answer', 'x'))
        pair = Region([('kinds', ANSWER, Kinds.sized(2)), ('kinds', ANSWER + (0,), INTEGER),
                       ('kinds', ANSWER + (1,), INTEGER), ('tie', ANSWER + (0,), ANSWER + (1,), -1)])
        self.assertEqual(preimage(same, 'c', pair, Box(2, 2)), ())

    def test_clauses_without_a_member_in_the_box(self):
        whole = sheet_of('( read x )')
        size = Region([('kinds', ANSWER, Kinds.sized(2))])
        self.assertEqual(self.words(whole, size, Box(2, 1)), [(('kinds', X, Kinds.sized(2)),)])
        for box in (Box(1, 1), Box(2, 0), Box(0, 4)):
            self.assertEqual(self.words(whole, size, box), [])
        part = Region([('kinds', ANSWER, Kinds.sized(1)), ('kinds', ANSWER + (0,), Kinds.sized(1))])
        self.assertEqual(self.words(whole, part, Box(1, 1)), [])
        self.assertEqual(len(self.words(whole, part, Box(1, 2))), 1)

    def test_atoms_and_parts(self):
        s = sheet_of('( tuple ( read x ) ( read y ) )')
        red = Region([('kinds', ANSWER, Kinds.sized(2)), ('kinds', ANSWER + (1,), ATOM), ('alike', ANSWER + (1,), 'red', True)])
        self.assertEqual(self.words(s, red), [
            (('kinds', X, Kinds.present()), ('kinds', Y, ATOM), ('alike', Y, 'red', True))])
        self.assertEqual(self.words(s, Region([('kinds', ANSWER, Kinds.sized(3))])), [])
        self.assertEqual(self.words(sheet_of("( tuple ( read x ) 'red )"), red), [(('kinds', X, Kinds.present()),)])
        self.assertEqual(self.words(sheet_of("( tuple ( read x ) 'blue )"), red), [])

    def test_errors(self):
        for cell in ('x', 'q'):
            with self.assertRaises(NoCell) as caught:
                preimage(MAX, cell, integers(), Box(2, 1), most=1)
            self.assertEqual(caught.exception.name, cell)
        with self.assertRaises(TooMany) as caught:
            preimage(sheet=MAX, cell='c', goal=integers((ANSWER, None, 3)), box=Box(2, 1), most=5)
        self.assertEqual(caught.exception.most, 5)
        self.assertEqual(len(preimage(MAX, 'c', integers((ANSWER, None, 3)), Box(2, 1), most=6)), 2)
        with self.assertRaises(TypeError):
            preimage(MAX, 'c', integers(), Box(2, 1), 6)


def random_goal(chance):
    """A goal for the answer: kinds, then words on it or on its parts."""
    words = [('kinds', ANSWER, chance.choice((
        INTEGER, INTEGER, ATOM, Kinds.sized(1), Kinds.sized(2), TUPLE, FAULT, FAULT | ATOM, Kinds.present() - ATOM)))]
    kinds = words[0][2]
    if kinds == INTEGER and chance.random() < 0.8:
        words.append(('tie', *chance.choice(((ANSWER, None), (None, ANSWER))), chance.randint(-1, 1)))
    if kinds == ATOM:
        words.append(('alike', ANSWER, chance.choice('abx'), chance.random() < 0.5))
    if kinds.size:
        words.append(('kinds', ANSWER + (0,), chance.choice((INTEGER, ATOM, TUPLE))))
    return Region(words)


class SearchTest(unittest.TestCase):
    def test_random_rules(self):
        met = 0
        for seed in range(300):
            sheet = random_sheet(seed, 3)
            box = Box(seed % 3, (seed // 3) % 3)
            goal = random_goal(random.Random(seed))
            try:
                found = preimage(sheet, 'c', goal, box, most=150)
            except TooMany:
                continue
            for at, one in enumerate(found):
                self.assertTrue(box.narrowed(one))
                self.assertFalse(any(one & other for other in found[:at]))
            for given in some_inputs(seed, box, 25):
                result = logged(sheet, 'c', given)[1]
                inside = [region for region in found if given in region]
                self.assertEqual(len(inside), int({'answer': result} in goal), (seed, given))
                met += len(inside)
        self.assertGreater(met, 500)

    def test_the_fault_of_an_answer_is_any_fault(self):
        s = sheet_of('( if ( is atom ( read x ) ) ( fail bad ) ( plus ( read y ) 1 ) )')
        found = preimage(s, 'c', Region([('kinds', ANSWER, FAULT)]), Box(1, 1))
        for x, y, many in (('a', 1, 1), (1, 'a', 1), (1, 1, 0), (Fault('bad'), 1, 1), (1, Fault('bad'), 1)):
            self.assertEqual(sum({'x': x, 'y': y} in region for region in found), many)


if __name__ == '__main__':
    unittest.main()
