"""Promises [27] and [28]: written terms, members that tell terms apart, regions with a result put in."""

import unittest

from runlore.kindsets import Kinds
from runlore.regions import Region
from runlore.terms import Built, Literal, Shifted, Whole
from runlore.values import Fault

X, Y, Z, R = ('x',), ('y',), ('z',), ('r',)
INTEGER, ATOM, FAULT = Kinds.of('integer'), Kinds.of('atom'), Kinds.of('fault')


def kinds(place, kind_set):
    return ('kinds', place, kind_set)


def integers(*places):
    return [kinds(place, INTEGER) for place in places]


def atoms(*places):
    return [kinds(place, ATOM) for place in places]


def equal(x, y, by):
    """Words by which x minus y is this number."""
    return [('tie', x, y, by), ('tie', y, x, -by)]


class WrittenTest(unittest.TestCase):
    def check(self, words, term, text):
        region = Region(words)
        written = region.written(term)
        self.assertEqual(str(written), text)
        self.assertEqual(region.written(term=written), written)

    def test_literals_and_open_places_stay(self):
        self.check([], Literal(3), '3')
        self.check([], Literal('red'), "'red")
        self.check([kinds(X, Kinds.present())], Whole(X), '@x')
        self.check([kinds(X, INTEGER | ATOM)], Whole(X), '@x')
        self.check([kinds(X, Kinds.of('tuple'))], Whole(X), '@x')
        self.check([kinds(X, Kinds.sized(1) | Kinds.sized(2))], Whole(X), '@x')

    def test_integers(self):
        self.check(integers(X), Whole(X), '@x+0')
        self.check(integers(X), Shifted(X, -3), '@x-3')
        self.check(integers(X) + equal(X, None, 4), Whole(X), '4')
        self.check(integers(X) + equal(X, None, 4), Shifted(X, -5), '-1')
        self.check(integers(X) + [('tie', X, None, 4)], Shifted(X, 1), '@x+1')

    def test_the_first_place(self):
        words = integers(X, Y, Z) + equal(Z, Y, 3) + equal(Y, X, -1)
        self.check(words, Whole(Z), '@x+2')
        self.check(words, Shifted(Y, 5), '@x+4')
        self.check(words, Shifted(X, 5), '@x+5')
        self.check(integers(X, Y) + [('tie', X, Y, 1), ('tie', Y, X, 0)], Whole(Y), '@y+0')
        parts = [kinds(X, Kinds.sized(11)), *integers(('x', 2), ('x', 10))]
        self.check(parts + equal(('x', 10), ('x', 2), 0), Whole(('x', 10)), '@x.2+0')

    def test_sizes(self):
        self.check([kinds(X, Kinds.sized(0))], Whole(X), '( )')
        words = [kinds(X, Kinds.sized(3)), kinds(('x', 1), Kinds.sized(2)), *integers(('x', 1, 0)), *atoms(('x', 2))]
        self.check(words, Whole(X), '( @x.0 ( @x.1.0+0 @x.1.1 ) @x.2 )')
        self.check(words + equal(('x', 1, 0), None, 8) + [('alike', ('x', 2), 'b', True)], Whole(X),
                   "( @x.0 ( 8 @x.1.1 ) 'b )")

    def test_atoms(self):
        self.check(atoms(X), Whole(X), '@x')
        self.check(atoms(X) + [('alike', X, 'red', True)], Whole(X), "'red")
        self.check(atoms(X, Y) + [('alike', Y, X, True)], Whole(Y), '@x')
        self.check(atoms(X, Y, Z) + [('alike', Z, Y, True), ('alike', X, Y, False)], Whole(Z), '@y')
        self.check(atoms(X, Y) + [('alike', Y, 'red', True), ('alike', X, Y, True)], Whole(X), "'red")

    def test_built(self):
        words = integers(X, Y) + equal(X, Y, 0) + [kinds(Z, Kinds.sized(1))]
        self.check(words, Built([Built([]), Shifted(Y, 1), Built([Whole(Z), Literal(3)])]), '( ( ) @x+1 ( ( @z.0 ) 3 ) )')


class DistinguishTest(unittest.TestCase):
    def check(self, words, one, other, apart=True):
        region = Region(words)
        for first, second in ((one, other), (other, one)):
            member = region.distinguish(first, second)
            if not apart:
                self.assertIsNone(member)
                continue
            self.assertIn(member, region)
            self.assertNotEqual(first(member), second(member), member)

    def test_terms_of_one_value(self):
        words = integers(X, Y) + equal(X, Y, 2) + [kinds(Z, Kinds.sized(1))]
        self.check(words, Whole(X), Shifted(Y, 2), apart=False)
        self.check(words, Built([Whole(Z), Whole(X)]), Built([Built([Whole(('z', 0))]), Shifted(Y, 2)]), apart=False)
        self.check(words + equal(Y, None, 1), Literal(3), Whole(X), apart=False)
        self.check(atoms(X) + [('alike', X, 'red', True)], Whole(X), Literal('red'), apart=False)
        self.check([kinds(X, Kinds.present())], Whole(X), Whole(X), apart=False)

    def test_integers(self):
        self.check([], Literal(3), Literal(4))
        self.check(integers(X), Whole(X), Literal(0))
        self.check(integers(X) + [('tie', X, None, 0)], Whole(X), Literal(0))
        self.check(integers(X) + [('tie', None, X, 0)], Whole(X), Literal(0))
        self.check(integers(X, Y), Whole(X), Shifted(Y, 3))
        self.check(integers(X, Y) + [('tie', X, Y, 3)], Whole(X), Shifted(Y, 3))
        self.check(integers(X, Y) + [('tie', X, Y, 3), ('tie', Y, X, -2)], Whole(X), Shifted(Y, 3))
        self.check(integers(X), Whole(X), Shifted(X, 1))

    def test_atoms(self):
        self.check([], Literal('red'), Literal('blue'))
        self.check(atoms(X), Whole(X), Literal('a'))
        self.check(atoms(X, Y), Whole(X), Whole(Y))
        self.check(atoms(X, Y) + [('alike', X, Y, False)], Whole(X), Whole(Y))
        self.check(atoms(X) + [('alike', X, 'red', True)], Whole(X), Literal('a'))

    def test_kinds(self):
        self.check([], Literal('a'), Literal(0))
        self.check([], Built([]), Built([Literal(1)]))
        self.check([], Built([]), Literal(0))
        open_x, open_y = [kinds(X, Kinds.present())], [kinds(Y, Kinds.present())]
        for other in (Literal(0), Literal('a'), Built([]), Built([Literal(0)])):
            self.check(open_x, Whole(X), other)
        self.check(open_x + open_y, Whole(X), Whole(Y))
        self.check(open_x + integers(Y), Whole(X), Whole(Y))
        self.check(open_x + atoms(Y), Whole(X), Whole(Y))
        self.check([kinds(X, INTEGER | ATOM), kinds(Y, INTEGER | ATOM)], Whole(X), Whole(Y))
        self.check([kinds(X, INTEGER | ATOM)] + integers(Y), Whole(X), Shifted(Y, 1))
        self.check([kinds(X, Kinds.sized(0) | Kinds.sized(1))], Whole(X), Built([]))
        self.check([kinds(X, Kinds.sized(1) | Kinds.sized(2))], Whole(X), Built([Whole(X)]))
        self.check(open_x, Whole(X), Built([Whole(X), Whole(X)]))

    def test_a_part_decides(self):
        words = [kinds(X, Kinds.sized(2)), *integers(('x', 0)), kinds(Y, Kinds.present())]
        self.check(words, Whole(X), Built([Whole(('x', 0)), Literal(0)]))
        self.check(words, Built([Whole(Y), Whole(('x', 0))]), Built([Whole(Y), Shifted(('x', 0), 1)]))
        self.check(words, Built([Built([]), Built([Literal(1)])]), Built([Built([]), Built([Literal(2)])]))

    def test_the_names_of_the_region_are_there(self):
        region = Region(integers(X) + [kinds(Y, FAULT)])
        self.assertEqual(sorted(region.distinguish(one=Whole(X), other=Literal(0))), ['x', 'y'])


class SubstitutedTest(unittest.TestCase):
    def test_a_shifted_result(self):
        goal = Region(integers(R) + [('tie', R, None, 5), ('tie', None, R, -2)])
        base = Region(integers(X))
        found = goal.substituted('r', Shifted(X, 3), base)
        self.assertEqual(found.words, (kinds(X, INTEGER), ('tie', None, X, 1), ('tie', X, None, 2)))
        self.assertEqual(goal.substituted(name='r', result=Literal(4), base=base), base)
        self.assertFalse(goal.substituted('r', Literal(6), base))
        self.assertFalse(goal.substituted('r', Literal('a'), base))

    def test_a_whole_result_takes_the_words_over(self):
        goal = Region([kinds(R, Kinds.sized(1)), *integers(('r', 0)), ('tie', ('r', 0), None, 4)])
        base = Region([kinds(X, Kinds.present())])
        found = goal.substituted('r', Whole(X), base)
        self.assertEqual(found.words, (
            kinds(X, Kinds.sized(1)), kinds(('x', 0), INTEGER), ('tie', ('x', 0), None, 4)))

    def test_a_built_result(self):
        goal = Region([kinds(R, Kinds.sized(2)), *atoms(('r', 0)), kinds(('r', 1), Kinds.sized(1)), *integers(('r', 1, 0)),
                       ('alike', ('r', 0), 'red', False), ('tie', ('r', 1, 0), None, 0)])
        base = Region(integers(X) + atoms(Y))
        found = goal.substituted('r', Built([Whole(Y), Built([Shifted(X, -1)])]), base)
        self.assertEqual(found.words[2:], (('tie', X, None, 1), ('alike', Y, 'red', False)))
        for result in (Built([]), Built([Whole(Y), Built([])]), Built([Whole(X), Built([Whole(X)])]), Whole(Y), Literal(1),
                       Built([Literal('red'), Built([Whole(X)])]), Built([Whole(Y), Built([Literal(1)])]),
                       Built([Whole(Y), Whole(X)]), Built([Whole(Y), Built([Literal('a')])])):
            moved = goal.substituted('r', result, base)
            self.assertFalse(moved, str(result))
            self.assertIsInstance(moved.conflict, tuple)
            self.assertIsNone(moved.words)

    def test_a_fault(self):
        base = Region(integers(X))
        for words, told in (([], True), ([kinds(R, FAULT)], True), ([kinds(R, FAULT | INTEGER)], True), (integers(R), False),
                            ([kinds(R, Kinds.present())], False), ([kinds(R, Kinds.sized(1)), *integers(('r', 0))], False)):
            found = Region(words).substituted('r', Fault('kind'), base)
            self.assertIs(bool(found), told)
            if told:
                self.assertEqual(found, base)
        self.assertFalse(Region([kinds(R, FAULT)]).substituted('r', Whole(X), base))

    def test_without_members(self):
        empty, full = Region(integers(X) + atoms(X)), Region(integers(R))
        for goal, base in ((full, empty), (empty, full), (empty, empty)):
            for result in (Literal(1), Fault('kind'), Built([])):
                found = goal.substituted('r', result, base)
                self.assertFalse(found)
                self.assertIsInstance(found.conflict, tuple)

    def test_a_name_of_which_the_base_speaks(self):
        base = Region(integers(X) + [('tie', X, None, 10)])
        goal = Region(integers(X) + [('tie', None, X, -8)])
        found = goal.substituted('x', Shifted(X, 1), base)
        self.assertEqual(found.words, (kinds(X, INTEGER), ('tie', None, X, -7), ('tie', X, None, 10)))
        self.assertEqual(goal.substituted('x', Literal(9), base), base)
        atom = Region(atoms(X))
        self.assertFalse(atom.substituted('x', Whole(X), base))
        self.assertEqual(atom.substituted('x', Literal('a'), base), base)
        self.assertEqual(Region([kinds(X, FAULT)]).substituted('x', Fault('a'), base), base)

    def test_other_names_of_the_goal(self):
        goal = Region(integers(R, Y, X) + [('tie', R, Y, 0), ('tie', Y, X, 7)])
        base = Region(integers(X))
        found = goal.substituted('r', Shifted(X, 2), base)
        self.assertEqual(found.words, (kinds(X, INTEGER), kinds(Y, INTEGER), ('tie', X, Y, -2), ('tie', Y, X, 7)))
        self.assertFalse(goal.substituted('r', Shifted(X, 8), base))

    def test_ties_of_one_place_and_of_literals(self):
        goal = Region([kinds(R, Kinds.sized(2)), *integers(('r', 0), ('r', 1)), ('tie', ('r', 0), ('r', 1), -1)])
        base = Region(integers(X))
        for one, other, told in ((Shifted(X, 0), Shifted(X, 1), True), (Whole(X), Whole(X), False),
                                 (Literal(2), Literal(3), True), (Literal(3), Literal(3), False)):
            self.assertIs(bool(goal.substituted('r', Built([one, other]), base)), told)
        found = goal.substituted('r', Built([Literal(5), Whole(X)]), base)
        self.assertEqual(found.words, (kinds(X, INTEGER), ('tie', None, X, -6)))

    def test_samenesses(self):
        base = Region(atoms(X, Y))
        for yes in (True, False):
            goal = Region([kinds(R, Kinds.sized(2)), *atoms(('r', 0), ('r', 1)), ('alike', ('r', 0), ('r', 1), yes)])
            for one, other, same in ((Whole(X), Whole(X), True), (Literal('a'), Literal('a'), True),
                                     (Literal('a'), Literal('b'), False)):
                self.assertIs(bool(goal.substituted('r', Built([one, other]), base)), same == yes)
            for one, other in ((Whole(X), Whole(Y)), (Whole(Y), Whole(X))):
                found = goal.substituted('r', Built([one, other]), base)
                self.assertEqual(found.words[2:], (('alike', X, Y, yes),))
            for one, other in ((Whole(X), Literal('b')), (Literal('b'), Whole(X))):
                found = goal.substituted('r', Built([one, other]), base)
                self.assertEqual(found.words[2:], (('alike', X, 'b', yes),))


if __name__ == '__main__':
    unittest.main()
