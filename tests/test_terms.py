"""Promise [10]: terms."""

import itertools
import unittest

from runlore.errors import NoPlace
from runlore.terms import Built, Literal, Shifted, Term, Whole
from runlore.values import Fault

INPUTS = {'x': (5, ('red', ())), 'y': 7, 'f': Fault('read')}


class TermTest(unittest.TestCase):
    def check_no_place(self, term, place, inputs=INPUTS):
        with self.assertRaises(NoPlace) as caught:
            term(inputs)
        self.assertEqual(caught.exception.place, place)

    def test_the_example(self):
        term = Built((Shifted(('x', 0), 2), Whole(('y',)), Literal('red')))
        self.assertEqual((str(term), term({'x': (5,), 'y': ()}), term.weight),
                         ("( @x.0+2 @y 'red )", (7, (), 'red'), 4))

    def test_classes(self):
        for term in (Literal(1), Whole(('x',)), Shifted(('x',), 1), Built(())):
            self.assertIsInstance(term, Term)
            self.assertEqual(type(term).__bases__, (Term,))

    def test_arguments_are_attributes(self):
        self.assertEqual((Literal(3).value, Literal(value='red').value), (3, 'red'))
        self.assertEqual((Whole(('x', 1)).place, Whole(place=('x',)).place), (('x', 1), ('x',)))
        for term in (Shifted(('x', 1), -2), Shifted(place=('x', 1), by=-2)):
            self.assertEqual((term.place, term.by), (('x', 1), -2))
        parts = [Literal(1), Literal('a')]
        for term in (Built(parts), Built(parts=tuple(parts))):
            self.assertIsInstance(term.parts, tuple)
            self.assertEqual(term.parts, (Literal(1), Literal('a')))

    def test_a_list_that_changes_later(self):
        parts = [Literal(1)]
        term = Built(parts)
        parts.append(Literal(2))
        self.assertEqual((str(term), term.weight, term({})), ('( 1 )', 2, (1,)))

    def test_values(self):
        self.assertEqual(Literal(3)({}), 3)
        self.assertEqual(Literal('red')(inputs={}), 'red')
        self.assertEqual(Whole(('x', 1))(INPUTS), ('red', ()))
        self.assertEqual(Whole(('x', 1, 1))(INPUTS), ())
        self.assertEqual(Shifted(('x', 0), -9)(INPUTS), -4)
        self.assertEqual(Shifted(('y',), 0)(INPUTS), 7)
        self.assertEqual(Built([])(INPUTS), ())
        self.assertEqual(Built([Built([]), Built([Literal(1), Whole(('y',))]), Literal(2)])(INPUTS), ((), (1, 7), 2))

    def test_no_value(self):
        self.check_no_place(Whole(('n',)), ('n',))
        self.check_no_place(Whole(('f',)), ('f',))
        self.check_no_place(Whole(('x', 2)), ('x', 2))
        self.check_no_place(Whole(('y', 0)), ('y', 0))
        self.check_no_place(Whole(('x', 1, 0, 0)), ('x', 1, 0, 0))

    def test_shifted_wants_an_integer(self):
        self.check_no_place(Shifted(('x', 1, 0), 1), ('x', 1, 0))
        self.check_no_place(Shifted(('x',), 1), ('x',))
        self.check_no_place(Shifted(('f',), 1), ('f',))
        self.check_no_place(Shifted(('n', 3), 1), ('n', 3))

    def test_the_first_place_from_left_to_right(self):
        good, bad, worse = Whole(('y',)), Whole(('n',)), Shifted(('x', 1), 1)
        self.check_no_place(Built([good, worse, bad]), ('x', 1))
        self.check_no_place(Built([good, bad, worse]), ('n',))
        self.check_no_place(Built([Built([good, Built([bad])]), worse]), ('n',))
        self.check_no_place(Built([good, Whole(('y', 1)), good]), ('y', 1))

    def test_places(self):
        self.assertEqual(Literal(1).places, ())
        self.assertEqual(Whole(('x', 1)).places, (('x', 1),))
        self.assertEqual(Shifted(('x',), 1).places, (('x',),))
        term = Built([Whole(('y',)), Built([Shifted(('x', 10), 0), Whole(('x', 2)), Whole(('x',))]),
                      Shifted(('y',), 4), Whole(('x', 2, 0)), Whole(('x', 2))])
        self.assertEqual(term.places, (('x',), ('x', 2), ('x', 2, 0), ('x', 10), ('y',)))
        self.assertEqual(Built([]).places, ())

    def test_weight(self):
        self.assertEqual([term.weight for term in (Literal(1), Whole(('x',)), Shifted(('x',), 1), Built([]))], [1] * 4)
        self.assertEqual(Built([Built([]), Built([Literal(1)]), Literal(2)]).weight, 5)

    def test_texts(self):
        for term, text in ((Literal(0), '0'), (Literal(-12), '-12'), (Literal('red'), "'red"),
                           (Whole(('x',)), '@x'), (Whole(('x', 0)), '@x.0'), (Whole(('x', 0, 12)), '@x.0.12'),
                           (Shifted(('x', 0), 2), '@x.0+2'), (Shifted(('x', 0), -2), '@x.0-2'),
                           (Shifted(('x',), 0), '@x+0'), (Built([]), '( )'), (Built([Literal(1)]), '( 1 )'),
                           (Built([Built([]), Built([Literal(1), Literal('a')])]), "( ( ) ( 1 'a ) )")):
            self.assertEqual(str(term), text)

    def test_equal_exactly_if_class_and_arguments_are(self):
        def terms():
            return [Literal(1), Literal(-1), Literal('a'), Literal('b'), Whole(('a',)), Whole(('a', 1)), Whole(('b',)),
                    Shifted(('a',), 0), Shifted(('a',), 1), Shifted(('a', 1), 0), Shifted(('b',), 0), Built([]),
                    Built([Literal(1)]), Built([Literal(1), Literal(1)]), Built([Built([Literal(1)])]), Built([Built([])]),
                    Built([Built([]), Literal(1)]), Built([Literal(1), Built([])]), Built([Whole(('a',)), Literal(1)]),
                    Built([Built([Literal(1), Literal(1)]), Literal(1)]),
                    Built([Built([Literal(1)]), Literal(1), Literal(1)])]

        for (at, one), (to, other) in itertools.product(enumerate(terms()), enumerate(terms())):
            self.assertIs(one == other, at == to, (str(one), str(other)))
            self.assertIs(one != other, at != to)
        for term in terms():
            for thing in (1, -1, 'a', None, ('a',), (), Fault('a')):
                self.assertIs(term == thing, False)

    def test_the_same_place_twice(self):
        term = Built([Shifted(('y',), 1), Shifted(('y',), 1), Whole(('y',))])
        self.assertEqual((term(INPUTS), term.places, term.weight), ((8, 8, 7), (('y',),), 4))

    def test_deep_terms(self):
        term = Whole(('y',))
        for _ in range(1500):
            term = Built([term])
        value = term(INPUTS)
        for _ in range(1500):
            value = value[0]
        self.assertEqual((value, term.weight), (7, 1501))
        self.assertEqual(str(term), '( ' * 1500 + '@y' + ' )' * 1500)
        self.assertEqual(term, Built(list(term.parts)))


if __name__ == '__main__':
    unittest.main()
