"""Margins: promise [40]."""

import unittest

import numberrules
from manycells import cells_sheet, dice, filled, inputs_in, integer_places, moved_to
from runlore.boxes import Box
from runlore.composing import composed
from runlore.errors import NoCell, NoPlace, TooMany
from runlore.margins import margin
from runlore.sheets import Sheet
from runlore.treetexts import read_expression as text
from runlore.trees import Book
from runlore.values import Fault

X = ('x',)


def sheet_of(*cells, inputs=('x', 'y')):
    return Sheet(Book(()), inputs, tuple(zip(cells[::2], [text(body) for body in cells[1::2]])))


def steps(many):
    """A rule with many + 1 clauses for integers: 0 up to 0, 1 for 1, 2 for 2 .."""
    body = str(many)
    for at in range(many - 1, -1, -1):
        body = f'( if ( most ( read x ) 0 {at} ) {at} {body} )'
    return sheet_of('c', body)


TOP = text('( fold best ( part ( read x ) 0 ) p ( read x ) ( if ( most best 0 p ) p best ) )')


class ExampleTest(unittest.TestCase):
    def test_document(self):
        s = Sheet(Book(()), ('x',), (('top', TOP),))
        given = {'x': (3, 5, 4)}
        found = margin(s, 'top', given, ('x', 1))
        self.assertEqual(found[:2], (4, None))
        # For 4, part 2 is returned, which is 4, too. For 3 it is still 4, but g(3) is 3.
        low, high = composed(s, 'top', {'x': (3, 4, 4)}), composed(s, 'top', given)
        self.assertEqual(found[2], ((3, 4, low), (5, None, high)))


class MarginTest(unittest.TestCase):
    def ends(self, sheet, given, place=X, cell='c', **more):
        """The margin, which is held against answers; pieces without their clauses."""
        low, high, pieces = margin(sheet, cell, given, place, **more)
        looked_at(self, sheet, cell, given, place, (low, high, pieces))
        return low, high, [piece[:2] for piece in pieces]

    def test_no_end(self):
        for body in ('( read x )', '5', '( plus ( read y ) 1 )', '( tuple ( read x ) ( read y ) )', '( fail bad )'):
            self.assertEqual(self.ends(sheet_of('c', body), {'x': 3, 'y': 5}), (None, None, [(None, None)]))

    def test_ends_at_pieces(self):
        least = sheet_of('c', '( if ( most ( read x ) 0 ( read y ) ) 1 2 )')
        self.assertEqual(self.ends(least, {'x': 3, 'y': 5}), (None, 5, [(None, 5), (6, None)]))
        self.assertEqual(self.ends(least, {'x': 5, 'y': 5}), (None, 5, [(None, 5), (6, None)]))
        self.assertEqual(self.ends(least, {'x': 6, 'y': 5}), (6, None, [(None, 5), (6, None)]))
        self.assertEqual(self.ends(least, {'x': 3, 'y': 5}, ('y',)), (3, None, [(None, 2), (3, None)]))
        self.assertEqual(self.ends(steps(5), {'x': 2, 'y': 0}), (2, 2, [(1, 1), (2, 2), (3, 3)]))

    def test_pieces_with_other_clauses_and_the_same_answer(self):
        s = sheet_of('c', "( if ( most ( read x ) 0 2 ) 'a ( if ( most ( read x ) 0 4 ) 'a 'b ) )")
        self.assertEqual(self.ends(s, {'x': 1}), (None, 4, [(None, 2), (3, 4), (5, None)]))
        self.assertEqual(self.ends(s, {'x': 4}), (None, 4, [(None, 2), (3, 4), (5, None)]))
        self.assertEqual(self.ends(s, {'x': 7}), (5, None, [(3, 4), (5, None)]))
        s = sheet_of('c', '( if ( most ( read x ) 0 2 ) ( read x ) ( if ( most ( read x ) 0 4 ) ( read x ) ( plus ( read x ) 0 ) ) )')
        self.assertEqual(self.ends(s, {'x': 3}), (None, None, [(None, 2), (3, 4), (5, None)]))

    def test_ends_inside_of_a_piece(self):
        s = sheet_of('c', '( if ( most ( read x ) 0 4 ) 5 ( read x ) )')
        self.assertEqual(self.ends(s, {'x': 1}), (None, 5, [(None, 4), (5, None)]))
        # From the other side 4 is no longer what is told: 5 for 4.
        self.assertEqual(self.ends(s, {'x': 7}), (5, None, [(None, 4), (5, None)]))
        s = sheet_of('c', '( if ( most 4 0 ( read x ) ) 3 ( read x ) )')
        self.assertEqual(self.ends(s, {'x': 9}), (3, None, [(None, 3), (4, None)]))

    def test_a_piece_of_one_integer_that_agrees(self):
        """What is told is equal at one integer, which is a whole piece; the next one agrees, too, or not."""
        s = sheet_of('c', '( if ( most ( read x ) 0 4 ) 5 ( if ( most ( read x ) 0 5 ) ( read x ) ( if ( most ( read x ) 0 9 ) 5 6 ) ) )')
        self.assertEqual(self.ends(s, {'x': 0}), (None, 9, [(None, 4), (5, 5), (6, 9), (10, None)]))
        # The result of the piece (5, 5) is written as 5.
        self.assertEqual(self.ends(s, {'x': 5}), (None, 9, [(None, 4), (5, 5), (6, 9), (10, None)]))
        self.assertEqual(self.ends(s, {'x': 20}), (10, None, [(6, 9), (10, None)]))

    def test_results_that_move_with_the_integer(self):
        s = sheet_of('c', '( if ( most ( read x ) 0 0 ) ( read x ) ( plus ( read x ) 1 ) )')
        self.assertEqual(self.ends(s, {'x': 0}), (None, 0, [(None, 0), (1, None)]))
        s = sheet_of('c', '( if ( most ( read x ) 0 0 ) ( tuple ( read x ) ( read y ) ) ( tuple ( read y ) ( read x ) ) )')
        self.assertEqual(self.ends(s, {'x': -2, 'y': 1}), (None, 1, [(None, 0), (1, None)]))
        self.assertEqual(self.ends(s, {'x': -2, 'y': 0}), (None, 0, [(None, 0), (1, None)]))
        self.assertEqual(self.ends(s, {'x': 3, 'y': 0}), (0, None, [(None, 0), (1, None)]))

    def test_great_numbers(self):
        big = 1000000000
        s = sheet_of('c', '( if ( most ( read x ) -1000000 ( read y ) ) 1 2 )')
        self.assertEqual(self.ends(s, {'x': big, 'y': -big}), (-big + 1000001, None, [(None, -big + 1000000), (-big + 1000001, None)]))
        self.assertEqual(self.ends(s, {'x': -big, 'y': big}), (None, big + 1000000, [(None, big + 1000000), (big + 1000001, None)]))

    def test_faults(self):
        s = sheet_of('c', '( if ( most ( read x ) 0 3 ) ( fail bad ) ( if ( most ( read x ) 0 6 ) ( plus ( tuple ) 1 ) ( fail kind ) ) )')
        self.assertEqual(self.ends(s, {'x': 0}), (None, 3, [(None, 3), (4, 6)]))
        # Faults with one word agree, wherever they come from; here they end nowhere on one side.
        self.assertEqual(self.ends(s, {'x': 5}), (4, None, [(None, 3), (4, 6), (7, None)]))

    def test_knots(self):
        s = sheet_of('a', '( if ( most ( read x ) 0 3 ) ( read b ) 1 )', 'b', '( if ( most 5 0 ( read x ) ) 1 ( read a ) )',
                     'c', '( tuple ( read a ) )')
        self.assertEqual(self.ends(s, {'x': 1}, cell='a'), (None, 3, [(None, 3), (4, None)]))
        self.assertEqual(self.ends(s, {'x': 1}, cell='b'), (None, 3, [(None, 3), (4, 4)]))
        self.assertEqual(self.ends(s, {'x': 1}, cell='c'), (None, 3, [(None, 3), (4, None)]))
        self.assertEqual(self.ends(s, {'x': 4}, cell='b'), (4, None, [(None, 3), (4, 4), (5, None)]))

    def test_places_in_tuples(self):
        s = sheet_of('c', '( fold n 0 z ( part ( read x ) 1 ) ( if ( most n 0 z ) z n ) )')
        given = {'x': ('a', (1, 7, 3)), 'y': 2}
        self.assertEqual(self.ends(s, given, ('x', 1, 1)), (3, None, [(1, 3), (4, None)]))
        self.assertEqual(self.ends(s, given, ('x', 1, 2)), (None, 7, [(None, 6), (7, None)]))
        self.assertEqual(self.ends(s, given, ('y',)), (None, None, [(None, None)]))
        moved = sheet_of('c', '( if ( most ( part ( read x ) 0 ) 0 3 ) ( read x ) ( join ( read x ) ( tuple ) ) )')
        self.assertEqual(self.ends(moved, {'x': (1, 'a')}, ('x', 0)), (None, None, [(None, 3), (4, None)]))
        whole = sheet_of('c', '( if ( most ( read y ) 0 3 ) ( read x ) ( tuple ( read y ) ) )')
        self.assertEqual(self.ends(whole, {'x': (5,), 'y': 1}, ('y',)), (None, 3, [(None, 3), (4, None)]))
        self.assertEqual(self.ends(whole, {'x': (5,), 'y': 9}, ('y',)), (4, None, [(None, 3), (4, None)]))
        self.assertEqual(self.ends(whole, {'x': (4,), 'y': 1}, ('y',)), (None, 4, [(None, 3), (4, None)]))

    def test_lacking_inputs(self):
        s = sheet_of('c', '( if ( most ( read x ) 0 3 ) ( read y ) 1 )')
        self.assertEqual(self.ends(s, {'x': 1}), (None, 3, [(None, 3), (4, None)]))
        self.assertEqual(self.ends(s, {'x': 7, 'y': Fault('bad')}), (4, None, [(None, 3), (4, None)]))

    def test_exactly_most_and_one_more(self):
        s = steps(8)
        self.assertEqual(self.ends(s, {'x': 4}, most=3), (4, 4, [(3, 3), (4, 4), (5, 5)]))
        same = sheet_of('c', '( if ( most ( read x ) 0 0 ) 5 ( if ( most ( read x ) 0 1 ) 5 ( if ( most ( read x ) 0 2 ) 5 6 ) ) )')
        for value in (-3, 0, 1, 2):
            self.assertEqual(self.ends(same, {'x': value}, most=4), (None, 2, [(None, 0), (1, 1), (2, 2), (3, None)]))
            with self.assertRaises(TooMany) as caught:
                margin(same, 'c', {'x': value}, X, most=3)
            self.assertEqual(caught.exception.most, 3)
        self.assertEqual(self.ends(same, {'x': 3}, most=2), (3, None, [(2, 2), (3, None)]))
        for value, most in ((3, 1), (4, 1)):
            with self.assertRaises(TooMany):
                margin(same, 'c', {'x': value}, X, most=most)
        self.assertEqual(self.ends(sheet_of('c', '5'), {'x': 1}, most=1), (None, None, [(None, None)]))

    def test_more_than_a_hundred_pieces(self):
        def many(last):
            inputs = {'x': 200, 'y': tuple(range(last))}
            return margin(sheet_of('c', '( fold n 0 z ( read y ) ( if ( most ( read x ) 0 z ) 0 n ) )'), 'c', inputs, X)
        self.assertEqual(len(many(99)[2]), 100)
        with self.assertRaises(TooMany) as caught:
            many(100)
        self.assertEqual(caught.exception.most, 100)


class ErrorTest(unittest.TestCase):
    def test_in_the_order_told(self):
        s = steps(3)
        for cell, given, place, name in (('x', {'z': 1}, ('q',), 'x'), ('c', {'z': 1, 'q': 1}, ('q',), 'q')):
            with self.assertRaises(NoCell) as caught:
                margin(s, cell, given, place, most=1)
            self.assertEqual(caught.exception.name, name)

    def test_places_where_no_integer_is(self):
        s = steps(3)
        given = {'x': (1, 'a', (2,)), 'y': Fault('bad')}
        for place in (('x',), ('x', 1), ('x', 2), ('x', 3), ('x', 0, 0), ('x', 2, 1), ('y',), ('y', 0), ('c',), ('q',)):
            with self.assertRaises(NoPlace) as caught:
                margin(sheet=s, cell='c', given=given, place=place, most=1)
            self.assertEqual(caught.exception.place, place)
        self.assertEqual(margin(s, 'c', given, ('x', 2, 0), most=1)[:2], (None, None))
        with self.assertRaises(NoPlace):
            margin(s, 'c', {'y': 3}, X)

    def test_keywords_only(self):
        with self.assertRaises(TypeError):
            margin(steps(3), 'c', {'x': 1}, X, 5)


def looked_at(test, sheet, cell, given, place, found, span=12):
    """A margin, held against answers and composed clauses at all integers in a span."""
    names = sheet.inputs
    value = integer_places(given)[place]
    clause = composed(sheet, cell, given)

    def at(number):
        return moved_to(given, {place: number})

    def told(number):
        return clause.result if isinstance(clause.result, Fault) else clause.result(filled(at(number), names))

    def end(step):
        for number in range(value + step, value + step * (span + 1), step):
            if sheet.answer(cell, at(number)) != told(number):
                return number - step
        return None

    low, high, pieces = found
    for told_end, own_end in ((low, end(-1)), (high, end(1))):
        if own_end is None:
            test.assertTrue(told_end is None or abs(told_end - value) >= span)
        else:
            test.assertEqual(told_end, own_end)
    test.assertTrue(all(one[1] + 1 == other[0] for one, other in zip(pieces, pieces[1:])))
    numbers = range(value - span if low is None else low - 1, (value + span if high is None else high + 1) + 1)
    touched = set()
    for number in numbers if len(numbers) < 100 else ():
        row = [at for at, (first, last, _) in enumerate(pieces)
               if (first is None or first <= number) and (last is None or number <= last)]
        test.assertEqual(len(row), 1)
        test.assertEqual(pieces[row[0]][2], composed(sheet, cell, at(number)))
        touched.add(row[0])
    if low is not None and high is not None and touched:
        test.assertEqual(touched, {*range(len(pieces))})
    test.assertTrue(low is not None or pieces[0][0] is None)
    test.assertTrue(high is not None or pieces[-1][1] is None)


class SearchTest(unittest.TestCase):
    def test_numbers(self):
        ends = 0
        for seed in range(60):
            sheet, chance = numberrules.numbers_sheet(seed), dice(seed)
            given = numberrules.number_inputs(chance, most=2)
            for place in integer_places(given):
                for cell in numberrules.CELLS:
                    found = margin(sheet, cell, given, place)
                    looked_at(self, sheet, cell, given, place, found)
                    ends += (found[0] is not None) + (found[1] is not None)
        self.assertGreater(ends, 100)

    def test_all_sorts_of_values(self):
        for seed in range(60):
            sheet, chance = cells_sheet(seed), dice(seed)
            given = inputs_in(chance, Box(2, 2))
            for place in integer_places(given):
                found = margin(sheet, 'c', given, place)
                looked_at(self, sheet, 'c', given, place, found, 5)


if __name__ == '__main__':
    unittest.main()
