"""Wishes and their certificates: promises [41] and [42]."""

import unittest

import numberrules
from certificates import is_certificate
from manycells import all_moves, dice, integer_places
from runlore.errors import NoCell, TooMany
from runlore.kindsets import Kinds
from runlore.places import value_at
from runlore.regions import Region
from runlore.sheets import Sheet
from runlore.treetexts import read_expression as text
from runlore.trees import Book
from runlore.values import Fault
from runlore.wishes import wish

ANSWER, X, Y = ('answer',), ('x',), ('y',)
FIRST, SECOND = ('answer', 0), ('answer', 1)
INTEGER, ATOM = Kinds.of('integer'), Kinds.of('atom')


def sheet_of(*cells, inputs=('x', 'y')):
    return Sheet(Book(()), inputs, tuple(zip(cells[::2], [text(body) for body in cells[1::2]])))


def integer(*ties):
    return Region([('kinds', ANSWER, INTEGER)] + [('tie', *tie) for tie in ties])


def at_most(number):
    return integer((ANSWER, None, number))


def at_least(number):
    return integer((None, ANSWER, -number))


def exactly(number):
    return integer((ANSWER, None, number), (None, ANSWER, -number))


def atom(word, yes=True):
    return Region([('kinds', ANSWER, ATOM), ('alike', ANSWER, word, yes)])


def pair(*ties):
    words = [('kinds', ANSWER, Kinds.sized(2)), ('kinds', FIRST, INTEGER), ('kinds', SECOND, INTEGER)]
    return Region(words + [('tie', *tie) for tie in ties])


WAY = text("( if ( most ( read x ) 0 ( read y ) ) 'up 'down )")


def number_at(given, end):
    return 0 if end is None else value_at(given, end)


def meets(sheet, cell, given, goal):
    answer = sheet.answer(cell, given)
    return not isinstance(answer, Fault) and {'answer': answer} in goal


def path_of(bars, given):
    """The outcomes of ties that inputs meet going down a certificate, and its end."""
    path = []
    while bars[0] == 'tie':
        _, x, y, c, yes, no = bars
        told = number_at(given, x) - number_at(given, y) <= c
        path.append(('tie', x, y, c, told))
        bars = yes if told else no
    return path, bars


def looked_at(test, sheet, cell, goal, bars, moved):
    """What a certificate tells of some inputs is true of them: they do not meet the goal."""
    path, end = path_of(bars, moved)
    answer = sheet.answer(cell, moved)
    test.assertFalse(meets(sheet, cell, moved, goal))
    if end[0] == 'fault':
        test.assertEqual(answer, Fault(end[1]))
    elif end[0] == 'unlike':
        test.assertNotIsInstance(answer, Fault)
    else:
        # Some tie of the ring is not true here: it is one of the goal, or tells that a move is too far.
        test.assertTrue(any(number_at(moved, x) - number_at(moved, y) > c for x, y, c in end[1]))


def check_cycle(test, end, allowed):
    word, ties = end
    test.assertEqual(word, 'cycle')
    for triple, other in zip(ties, ties[1:] + ties[:1]):
        test.assertIn(triple, allowed)
        test.assertEqual(triple[1], other[0])
    test.assertLess(sum(c for _, _, c in ties), 0)


def checked(test, sheet, cell, given, goal, span=3, **more):
    """What `wish` tells, held against all moves by small numbers."""
    told = wish(sheet, cell, given, goal, **more)
    test.assertIsInstance(told, tuple)
    least = next((by for by in range(span + 1) if any(meets(sheet, cell, one, goal) for one in all_moves(given, by))), None)
    bars, by = told[-1], None
    if told[0] == 'none':
        test.assertEqual((len(told), least), (2, None))
    else:
        word, by, inputs, bars = told
        test.assertEqual((word, by if by <= span else None), ('move', least))
        test.assertTrue(meets(sheet, cell, inputs, goal))
        test.assertEqual(list(inputs), list(given))
        before, after = integer_places(given), integer_places(inputs)
        test.assertEqual(list(before), list(after))
        test.assertEqual(max([abs(before[place] - after[place]) for place in before], default=0), by)
        by = by - 1
    if by == -1:
        test.assertIsNone(bars)
        return told
    test.assertTrue(is_certificate(sheet, cell, given, goal, by, bars))
    for moved in all_moves(given, span if by is None else min(by, span)):
        looked_at(test, sheet, cell, goal, bars, moved)
    return told


class ExampleTest(unittest.TestCase):
    def test_document(self):
        s = Sheet(Book(()), ('x', 'y'), (('way', WAY),))
        told = wish(s, 'way', {'x': 3, 'y': 1}, atom('up'))
        self.assertEqual(told[:3], ('move', 1, {'x': 2, 'y': 2}))
        word, x, y, c, yes, no = told[3]
        self.assertEqual((word, x, y, c, no), ('tie', X, Y, 0, ('unlike', ANSWER)))
        self.assertEqual(yes[0], 'cycle')
        self.assertEqual({*yes[1]}, {(X, Y, 0), (Y, None, 1), (None, X, -3)})


class MoveTest(unittest.TestCase):
    def moved(self, sheet, given, goal, cell='c', **more):
        told = checked(self, sheet, cell, given, goal, **more)
        return told[:3] if told[0] == 'move' else told

    def test_by_nothing(self):
        for body, goal in (('( read x )', exactly(3)), ('5', integer()), ("'red", atom('red')), ("'red", atom('blue', False)),
                           ('( tuple ( read x ) 4 )', pair((FIRST, SECOND, -1))), ('( tuple )', Region([('kinds', ANSWER, Kinds.sized(0))])),
                           ('( plus ( read x ) 0 )', Region([('kinds', ANSWER, Kinds.present())])),
                           ('( read x )', at_least(3)), ('( read x )', at_most(3))):
            s = sheet_of('c', body)
            self.assertEqual(wish(s, 'c', {'x': 3, 'y': 1}, goal), ('move', 0, {'x': 3, 'y': 1}, None), body)
            self.moved(s, {'x': 3, 'y': 1}, goal)

    def test_by_the_least_number(self):
        s = sheet_of('c', '( plus ( read x ) 2 )')
        for number in range(7):
            x = number - 2
            self.assertEqual(self.moved(s, {'x': 1}, exactly(number)), ('move', abs(x - 1), {'x': x}))
            self.assertEqual(self.moved(s, {'x': 1}, at_least(number)), ('move', max(x - 1, 0), {'x': max(x, 1)}))
            self.assertEqual(self.moved(s, {'x': 1}, at_most(number)), ('move', max(1 - x, 0), {'x': min(x, 1)}))
        told = wish(s, 'c', {'x': 1}, exactly(1000000))
        self.assertEqual(told[:3], ('move', 999997, {'x': 999998}))
        self.assertEqual(told[3], ('cycle', told[3][1]))
        check_cycle(self, told[3], [(X, None, 999997), (None, X, 999995), (X, None, 999998), (None, X, -999998)])

    def test_several_integers_move(self):
        s = sheet_of('c', "( if ( most ( read x ) 0 ( read y ) ) 'up 'down )")
        for x, y, by in ((3, 1, 1), (4, 1, 2), (5, 1, 2), (6, 1, 3), (1, 1, 0), (-2, 3, 0)):
            self.assertEqual(self.moved(s, {'x': x, 'y': y}, atom('up'))[:2], ('move', by))
        for x, y, by in ((1, 1, 1), (1, 2, 1), (1, 3, 2), (2, 1, 0)):
            self.assertEqual(self.moved(s, {'x': x, 'y': y}, atom('down'))[:2], ('move', by))
        # Only one of the two can move towards the other: the other one is a literal.
        s = sheet_of('c', "( if ( most ( read x ) 0 3 ) 'up 'down )")
        self.assertEqual(self.moved(s, {'x': 6}, atom('up')), ('move', 3, {'x': 3}))
        three = sheet_of('c', '( fold n 0 z ( read x ) ( if ( most n 1 z ) z -99 ) )')
        for x, by in (((1, 1), 1), ((5, 1), 3), ((1, 1, 1), 0), ((1, 3, 3), 1), ((4, 3, 0), 0)):
            self.assertEqual(self.moved(three, {'x': x}, at_least(0))[1], by, x)

    def test_integers_that_need_not_move_stay(self):
        s = sheet_of('c', '( if ( most ( read x ) 0 3 ) ( tuple ( read y ) ( read x ) ) 0 )')
        goal = Region([('kinds', ANSWER, Kinds.sized(2))])
        self.assertEqual(self.moved(s, {'x': 5, 'y': (1, (2, 'a'))}, goal), ('move', 2, {'x': 3, 'y': (1, (2, 'a'))}))

    def test_in_parts(self):
        s = sheet_of('c', '( if ( most ( part ( part ( read x ) 1 ) 0 ) 0 ( part ( read x ) 0 ) ) 1 2 )')
        told = self.moved(s, {'x': (1, (4, 'a')), 'y': Fault('bad')}, exactly(1))
        self.assertEqual(told[1], 2)

    def test_no_move(self):
        for body, goal, bars in (
                ('5', exactly(6), None), ("'red", atom('blue'), ('unlike', ANSWER)), ('( fail bad )', integer(), ('fault', 'bad')),
                ('( plus ( tuple ) 1 )', integer(), ('fault', 'kind')), ('( read y )', integer(), ('fault', 'read')),
                ('( read x )', atom('a'), ('unlike', ANSWER)), ('( tuple 1 )', pair(), ('unlike', ANSWER)),
                ("( tuple 1 'a )", pair(), ('unlike', SECOND)), ("( tuple 'a 'a )", pair(), ('unlike', FIRST)),
                ('( read c )', integer(), ('fault', 'knot'))):
            told = self.moved(sheet_of('c', body), {'x': 3}, goal)
            self.assertEqual(told[0], 'none')
            if bars is not None:
                self.assertEqual(told, ('none', bars))
        self.assertEqual(wish(sheet_of('c', '5'), 'c', {}, exactly(6)), ('none', ('cycle', ((None, None, -1),))))
        self.assertEqual(wish(sheet_of('c', '5'), 'c', {}, at_most(3)), ('none', ('cycle', ((None, None, -2),))))

    def test_rings_of_ties_without_bounds(self):
        s = sheet_of('c', '( if ( most ( read x ) 0 ( read y ) ) ( tuple ( read x ) ( read y ) ) ( tuple ( read y ) ( read x ) ) )')
        told = self.moved(s, {'x': 3, 'y': 1}, pair((SECOND, FIRST, -1)))
        word, x, y, c, yes, no = told[1]
        self.assertEqual((told[0], word, x, y, c), ('none', 'tie', X, Y, 0))
        self.assertEqual({*yes[1]}, {(X, Y, 0), (Y, X, -1)})
        # The goal asks for y > x in the order in which the parts are read: x < y fails there.
        self.assertEqual({*no[1]}, {(Y, X, -1), (X, Y, -1)})
        one = sheet_of('c', '( tuple ( read x ) ( plus ( read x ) 1 ) )')
        self.assertEqual(self.moved(one, {'x': 3}, pair((SECOND, FIRST, 0))), ('none', ('cycle', ((X, X, -1),))))

    def test_goals_of_sizes(self):
        s = sheet_of('c', '( if ( most ( read x ) 0 3 ) ( tuple 1 ) ( if ( most ( read x ) 0 5 ) ( tuple ) 5 ) )')
        def sizes(kinds):
            return Region([('kinds', ANSWER, kinds)])
        self.assertEqual(self.moved(s, {'x': 7}, sizes(Kinds.sized(1)))[1], 4)
        self.assertEqual(self.moved(s, {'x': 7}, sizes(Kinds.of('tuple')))[1], 2)
        self.assertEqual(self.moved(s, {'x': 3}, sizes(Kinds.of('tuple') - Kinds.sized(1)))[1], 1)
        self.assertEqual(self.moved(s, {'x': 3}, sizes(INTEGER | ATOM))[1], 3)
        self.assertEqual(self.moved(s, {'x': 3}, sizes(Kinds.sized(2)))[0], 'none')

    def test_goals_of_samenesses(self):
        s = sheet_of('c', '( if ( most ( read x ) 0 3 ) ( tuple ( part ( read y ) 0 ) ( part ( read y ) 1 ) ) ( read y ) )')
        both = [('kinds', ANSWER, Kinds.sized(2)), ('kinds', FIRST, ATOM), ('kinds', SECOND, ATOM)]
        for yes, y, by in ((True, ('a', 'a'), 0), (True, ('a', 'b'), None), (False, ('a', 'b'), 0), (False, ('a', 'a'), None)):
            told = self.moved(s, {'x': 1, 'y': y}, Region(both + [('alike', FIRST, SECOND, yes)]))
            self.assertEqual(told[1] if told[0] == 'move' else None, by)
            if by is None:
                self.assertEqual({told[1][4], told[1][5]}, {('unlike', FIRST)})
        other = Region(both + [('alike', SECOND, 'b', True), ('alike', FIRST, 'a', False)])
        self.assertEqual(self.moved(s, {'x': 1, 'y': ('a', 'b')}, other)[1][4], ('unlike', FIRST))
        self.assertEqual(self.moved(s, {'x': 1, 'y': ('c', 'a')}, other)[1][4], ('unlike', SECOND))
        self.assertEqual(self.moved(s, {'x': 1, 'y': ('c', 'b')}, other)[1], 0)

    def test_the_first_word_that_a_term_does_not_meet(self):
        """Kinds come first, in place order, then samenesses; ties are left out."""
        words = [('kinds', ANSWER, Kinds.sized(3)), ('kinds', FIRST, INTEGER), ('kinds', SECOND, ATOM), ('kinds', ('answer', 2), ATOM),
                 ('tie', FIRST, None, 0), ('alike', SECOND, ('answer', 2), True)]
        for body, bars in (("( tuple 5 'a 'b )", ('unlike', SECOND)), ("( tuple 5 'a 'a )", ('cycle', ((None, None, -5),))),
                           ("( tuple 'a 'a 'b )", ('unlike', FIRST)), ("( tuple 5 'a 5 )", ('unlike', ('answer', 2))),
                           ("( tuple 'a 5 5 )", ('unlike', FIRST)), ("( tuple 5 5 )", ('unlike', ANSWER))):
            self.assertEqual(self.moved(sheet_of('c', body), {'x': 3}, Region(words)), ('none', bars))

    def test_rings_of_cells(self):
        s = sheet_of('a', '( if ( most ( read x ) 0 3 ) ( read b ) 1 )', 'b', '( if ( most 5 0 ( read x ) ) 1 ( read a ) )',
                     'c', '( tuple ( read a ) )')
        self.assertEqual(self.moved(s, {'x': 1}, integer(), cell='b'), ('move', 3, {'x': 4}))
        told = checked(self, s, 'b', {'x': 1}, integer())
        self.assertEqual(path_of(told[3], {'x': 3})[1], ('fault', 'knot'))
        self.assertEqual(self.moved(s, {'x': 1}, Region([('kinds', ANSWER, Kinds.sized(1))])), ('move', 3, {'x': 4}))

    def test_terms_are_led_as_the_run_has_them(self):
        """Ties of the outcomes make the place of a term hang on another one; the term of the run counts."""
        s = sheet_of('c', '( if ( both ( most ( read x ) 3 ( read y ) ) ( most ( read y ) -3 ( read x ) ) ) ( read y ) 0 )')
        told = checked(self, s, 'c', {'x': 0, 'y': 3}, at_least(9))
        self.assertEqual(told[:3], ('move', 6, {'x': 6, 'y': 9}))
        pinned = sheet_of('c', '( if ( both ( most ( read x ) 0 3 ) ( most 3 0 ( read x ) ) ) ( read x ) 0 )')
        told = checked(self, pinned, 'c', {'x': 3}, at_least(4))
        self.assertEqual(told[0], 'none')
        self.assertEqual({*path_of(told[1], {'x': 3})[1][1]}, {(X, None, 3), (None, X, -4)})

    def test_lacking_inputs_and_faults_stay(self):
        s = sheet_of('c', '( if ( most ( read x ) 0 3 ) 1 ( read y ) )')
        self.assertEqual(self.moved(s, {'x': 5}, exactly(1)), ('move', 2, {'x': 3}))
        told = self.moved(s, {'y': Fault('bad'), 'x': 5}, exactly(1))
        self.assertEqual((told, list(told[2])), (('move', 2, {'x': 3, 'y': Fault('bad')}), ['y', 'x']))
        self.assertEqual(path_of(checked(self, s, 'c', {'x': 5}, exactly(1))[3], {'x': 6})[1], ('fault', 'read'))

    def test_an_input_that_is_called_answer(self):
        s = sheet_of('c', '( plus ( read answer ) 1 )', inputs=('answer',))
        self.assertEqual(self.moved(s, {'answer': 3}, exactly(6)), ('move', 2, {'answer': 5}))


class MostTest(unittest.TestCase):
    def test_exactly_most_and_one_more(self):
        body = '9'
        for at in range(8, -1, -1):
            body = f'( if ( most ( read x ) 0 {at} ) {at} {body} )'
        s = sheet_of('c', body)
        for goal, by in ((exactly(5), 0), (exactly(9), 4), (exactly(11), None)):
            told = wish(s, 'c', {'x': 5}, goal, most=10)
            self.assertEqual(told[1] if by is not None else told[0], 'none' if by is None else by)
            with self.assertRaises(TooMany) as caught:
                wish(s, 'c', {'x': 5}, goal, most=9)
            self.assertEqual(caught.exception.most, 9)

    def test_more_than_four_hundred(self):
        s = sheet_of('c', '( fold n 0 z ( read x ) ( fold m n w ( read y ) ( if ( most z 0 w ) ( plus m 1 ) m ) ) )')
        given = {'x': (1, 2, 3), 'y': (4, 5, 6, 7)}
        # So many ways there are to say of each of 3 and 4 integers which is the greater one.
        with self.assertRaises(TooMany) as caught:
            wish(s, 'c', given, exactly(12))
        self.assertEqual(caught.exception.most, 400)
        with self.assertRaises(TooMany):
            wish(s, 'c', given, exactly(12), most=1065)
        self.assertEqual(wish(s, 'c', given, exactly(12), most=1066)[1], 0)
        three = {'x': (1, 2, 3), 'y': (4, 5, 6)}
        self.assertEqual(wish(s, 'c', three, exactly(0), most=230)[1], 3)
        with self.assertRaises(TooMany):
            wish(s, 'c', three, exactly(0), most=229)

    def test_decided_ties_make_no_clauses(self):
        s = sheet_of('c', '( if ( most ( read x ) 0 3 ) ( if ( most ( read x ) 0 4 ) 1 2 ) ( if ( most ( read x ) 0 2 ) 3 4 ) )')
        self.assertEqual(wish(s, 'c', {'x': 9}, exactly(1), most=2)[:3], ('move', 6, {'x': 3}))
        self.assertEqual(wish(s, 'c', {'x': 9}, exactly(2), most=2)[0], 'none')


class ErrorTest(unittest.TestCase):
    def test_in_the_order_told(self):
        s = sheet_of('c', '( if ( most ( read x ) 0 3 ) 1 2 )')
        for cell, given, name in (('x', {'z': 1}, 'x'), ('c', {'z': 1, 'c': 2, 'x': 1}, 'c'), ('q', {}, 'q')):
            with self.assertRaises(NoCell) as caught:
                wish(sheet=s, cell=cell, given=given, goal=exactly(1), most=1)
            self.assertEqual(caught.exception.name, name)
        with self.assertRaises(TypeError):
            wish(s, 'c', {'x': 1}, exactly(1), 5)
        given = {'x': 9}
        with self.assertRaises(TooMany):
            wish(s, 'c', given, exactly(1), most=1)
        self.assertEqual(given, {'x': 9})


def random_goal(chance, answer):
    """A goal that is mostly near to the answer."""
    number = chance.randint(-5, 5)
    if isinstance(answer, int):
        return chance.choice((at_most, at_least, exactly))(answer + chance.randint(-3, 3))
    if isinstance(answer, tuple) and len(answer) == 2:
        return chance.choice((pair((FIRST, SECOND, number)), pair((SECOND, FIRST, -2), (FIRST, None, number))))
    return chance.choice((atom('up'), atom('down', False), integer(), exactly(number), Region([('kinds', ANSWER, Kinds.of('tuple'))])))


class SearchTest(unittest.TestCase):
    def test_numbers(self):
        counts = {}
        for seed in range(100):
            sheet, chance = numberrules.numbers_sheet(seed, 4), dice(seed)
            for cell in numberrules.CELLS[1:]:
                given = numberrules.number_inputs(chance, most=1)
                if seed % 20 == 0:
                    del given[chance.choice(sorted(given))]
                try:
                    told = checked(self, sheet, cell, given, random_goal(chance, sheet.answer(cell, given)), 2)
                except TooMany:
                    continue
                key = told[0] if told[0] == 'none' else min(told[1], 3)
                counts[key] = counts.get(key, 0) + 1
        self.assertGreater(min(counts.get(key, 0) for key in ('none', 0, 1, 2, 3)), 4, counts)


if __name__ == '__main__':
    unittest.main()
