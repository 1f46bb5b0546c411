"""Promise [19]: kind sets."""

import itertools
import unittest

from runlore.kindsets import Kinds

UNIVERSE = ('integer', 'atom', 0, 1, 2, 3, 4, 20, 21, 500, 'fault')


def some_sets():
    """Kind sets with the kinds of the universe that they have."""
    basic = [Kinds.of('integer'), Kinds.of('atom'), Kinds.of('fault'), Kinds.sized(0), Kinds.sized(2), Kinds.sized(3)]
    found = [(Kinds.everything() - Kinds.everything(), frozenset())]
    for many in (1, 2, 3):
        for parts in itertools.combinations(basic, many):
            whole = parts[0]
            for part in parts[1:]:
                whole = whole | part
            kinds = frozenset(part.only for part in parts)
            found.append((whole, kinds))
            found.append((Kinds.everything() - whole, frozenset(UNIVERSE) - kinds))
    return found


class KindsTest(unittest.TestCase):
    def test_the_example(self):
        a = Kinds.present() - Kinds.sized(2)
        self.assertEqual((str(a), 2 in a, a.only, str(a & Kinds.of('tuple'))),
                         ('integer|atom|tuple but 2', False, None, 'tuple but 2'))

    def test_what_they_have(self):
        for kinds, has in (
                (Kinds.everything(), UNIVERSE), (Kinds.present(), UNIVERSE[:-1]), (Kinds.of('integer'), ('integer',)),
                (Kinds.of('atom'), ('atom',)), (Kinds.of('fault'), ('fault',)), (Kinds.of('tuple'), UNIVERSE[2:-1]),
                (Kinds.sized(0), (0,)), (Kinds.sized(20), (20,)), (Kinds.of(word='atom'), ('atom',)),
                (Kinds.sized(k=3), (3,))):
            self.assertEqual([kind for kind in UNIVERSE if kind in kinds], list(has))

    def test_what_is_no_kind(self):
        for thing in ('tuple', 'nothing', '', 'read', -1, -2, True, False, None, 1.0, 0.0, (), (1,), [], [0], ['atom'],
                      ('integer',), 'Integer', '0'):
            for kinds in (Kinds.everything(), Kinds.of('tuple'), Kinds.sized(1), Kinds.sized(0), Kinds.of('atom')):
                self.assertIs(thing in kinds, False, thing)

    def test_operations(self):
        sets = some_sets()
        for (a, has_a), (b, has_b) in itertools.product(sets, repeat=2):
            for made, want in ((a & b, has_a & has_b), (a | b, has_a | has_b), (a - b, has_a - has_b)):
                self.assertEqual({kind for kind in UNIVERSE if kind in made}, want, (str(a), str(b)))
            self.assertIs(a == b, has_a == has_b)
            self.assertIs(a != b, has_a != has_b)
            self.assertIs(a.within(b), has_a <= has_b)
            self.assertIs(bool(a), bool(has_a))

    def test_equal_ones_that_were_built_otherwise(self):
        one = Kinds.sized(2) | Kinds.of('atom') | Kinds.sized(0)
        other = (Kinds.sized(0) | Kinds.sized(1) | Kinds.sized(2) | Kinds.present() & Kinds.of('atom')) - Kinds.sized(1)
        self.assertEqual((one == other, str(one), str(other)), (True, 'atom|tuple 0 2', 'atom|tuple 0 2'))
        self.assertEqual(Kinds.everything(), Kinds.present() | Kinds.of('fault'))
        self.assertEqual((Kinds.of('tuple') - Kinds.sized(3)) | Kinds.sized(3), Kinds.of('tuple'))
        but = Kinds.of('tuple') - Kinds.sized(5) - Kinds.sized(1)
        self.assertEqual(but, Kinds.of('tuple') - Kinds.sized(1) - Kinds.sized(5) - Kinds.sized(1))
        self.assertEqual(str(but), 'tuple but 1 5')

    def test_equal_nothing_else(self):
        for thing in ('integer', None, 0, (), {'integer'}, frozenset()):
            self.assertIs(Kinds.of('integer') == thing, False)

    def test_texts(self):
        none = Kinds.of('atom') - Kinds.of('atom')
        self.assertEqual(
            [str(kinds) for kinds in (
                Kinds.everything(), Kinds.present(), Kinds.of('integer'), Kinds.of('tuple'), Kinds.of('fault'), none,
                Kinds.sized(10) | Kinds.sized(9), Kinds.everything() - Kinds.of('atom') - Kinds.sized(0),
                Kinds.of('fault') | Kinds.sized(1), Kinds.of('tuple') - Kinds.sized(10) - Kinds.sized(9))],
            ['integer|atom|tuple|fault', 'integer|atom|tuple', 'integer', 'tuple', 'fault', 'nothing', 'tuple 9 10',
             'integer|tuple but 0|fault', 'tuple 1|fault', 'tuple but 9 10'])

    def test_only_size_and_least(self):
        none = Kinds.of('atom') - Kinds.of('atom')
        tuples = Kinds.of('tuple')
        for kinds, told in (
                (none, (None, None, None)), (Kinds.everything(), (None, None, 'integer')),
                (Kinds.of('integer'), ('integer', None, 'integer')), (Kinds.of('fault'), ('fault', None, 'fault')),
                (Kinds.of('atom') | Kinds.of('fault'), (None, None, 'atom')), (Kinds.sized(0), (0, 0, 0)),
                (Kinds.sized(7), (7, 7, 7)), (Kinds.sized(7) | Kinds.sized(4), (None, None, 4)),
                (Kinds.sized(7) | Kinds.of('fault'), (None, None, 7)), (tuples, (None, None, 0)),
                (tuples - Kinds.sized(0) - Kinds.sized(1) - Kinds.sized(3), (None, None, 2)),
                (tuples - Kinds.sized(1), (None, None, 0)),
                (Kinds.sized(0) | Kinds.of('integer'), (None, None, 'integer')),
                (tuples - (tuples - Kinds.sized(2)), (2, 2, 2))):
            self.assertEqual((kinds.only, kinds.size, kinds.least), told, str(kinds))

    def test_they_never_change(self):
        a, b = Kinds.of('tuple') - Kinds.sized(1), Kinds.sized(1) | Kinds.of('atom')
        before = str(a), str(b)
        for made in (a & b, a | b, a - b, b - a):
            self.assertTrue(made in (a, b) or str(made))
        self.assertEqual((str(a), str(b)), before)
        self.assertIs(a.within(other=b), False)


if __name__ == '__main__':
    unittest.main()
