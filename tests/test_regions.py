"""Promises [20] to [26]: words, regions, members, the normal form, differences, least members."""

import itertools
import string
import unittest

from runlore.errors import NoWord
from runlore.kindsets import Kinds
from runlore.regions import Region
from runlore.values import Fault

X, Y, Z = ('x',), ('y',), ('z',)
INTEGER, ATOM, FAULT = Kinds.of('integer'), Kinds.of('atom'), Kinds.of('fault')


def kinds(place, kind_set):
    return ('kinds', place, kind_set)


def integers(*places):
    return [kinds(place, INTEGER) for place in places]


def atoms(*places):
    return [kinds(place, ATOM) for place in places]


def named(text):
    return [(letter,) for letter in text]


def is_ring(ties, words):
    heads = [x for x, _, _ in ties]
    chained = heads[1:] + heads[:1] == [y for _, y, _ in ties]
    return chained and sum(c for _, _, c in ties) < 0 and all(('tie', *triple) in words for triple in ties)


class ExampleTest(unittest.TestCase):
    def test_the_example(self):
        i, j = ('i', 0), ('i', 1)
        pair = Region([
            ('kinds', ('i',), Kinds.sized(2)), ('kinds', i, Kinds.of('integer')), ('kinds', j, Kinds.of('integer'))])
        low = pair.with_word(('tie', i, j, 0)).with_word(('tie', j, None, 0))
        self.assertEqual(low.words[3:], (
            ('tie', ('i', 0), None, 0), ('tie', ('i', 0), ('i', 1), 0), ('tie', ('i', 1), None, 0)))
        self.assertEqual((len(pair - low), low.least, {'i': (1, 0)} in low), (3, {'i': (0, 0)}, False))


class NoWordTest(unittest.TestCase):
    def check(self, words, at):
        for given in (list(words), tuple(words)):
            with self.assertRaises(NoWord) as caught:
                Region(given)
            self.assertEqual(caught.exception.at, at, words)

    def test_no_words(self):
        start = integers(X, Y) + atoms(Z)
        for thing in (
                (), None, 3, 'kinds', ['kinds', X, INTEGER], ('kinds', X), ('kinds', X, INTEGER, 1), ('kinds', (), INTEGER),
                ('kinds', 'x', INTEGER), ('kinds', X, 'integer'), ('kinds', ['x'], INTEGER), ('kinds', ('x', -1), INTEGER),
                ('kinds', None, INTEGER), ('kind', X, INTEGER), (X, INTEGER), (['kinds'], X, INTEGER),
                ('tie', X, Y), ('tie', X, Y, '0'), ('tie', X, Y, True), ('tie', X, Y, None), ('tie', X, Y, 1.0),
                ('tie', X, 0, 0), ('tie', 0, Y, 0), ('tie', ['x'], Y, 0), ('tie', 'x', Y, 0), ('tie', X, Y, 0, True),
                ('alike', Z, 'red'), ('alike', Z, 'red', 1), ('alike', Z, 'red', None), ('alike', 'red', Z, True),
                ('alike', Z, 'Red', True), ('alike', Z, '', True), ('alike', Z, 'abcdefghi', True), ('alike', Z, 3, True),
                ('alike', None, Z, True), ('alike', Z, None, True)):
            self.check(start + [thing], 3)
            self.check([thing] + start, 0)
            self.check(start[:2] + [thing] + start[2:], 2)
            with self.assertRaises(NoWord) as caught:
                Region(start).with_word(thing)
            self.assertEqual(caught.exception.at, 0)
            self.assertIs(Region(start).implies(thing), False)

    def test_not_grounded(self):
        part = ('x', 0)
        for words, at in (
                ([kinds(part, INTEGER)], 0),
                ([kinds(X, Kinds.sized(1)), kinds(('x', 1), INTEGER)], 1),
                ([kinds(X, Kinds.of('tuple')), kinds(part, INTEGER)], 1),
                ([kinds(X, Kinds.sized(1) | Kinds.sized(2)), kinds(part, INTEGER)], 1),
                ([kinds(X, Kinds.sized(1)), kinds(('x', 0, 0), INTEGER)], 1),
                ([kinds(X, Kinds.sized(0)), kinds(part, INTEGER)], 1),
                (integers(X) + [kinds(part, INTEGER)], 1),
                ([('tie', X, None, 0)] + integers(X), 0),
                (integers(X) + [('tie', X, Y, 0)] + integers(Y), 1),
                (integers(X) + atoms(Y) + [('tie', X, Y, 0)], 2),
                ([kinds(X, INTEGER | ATOM), ('tie', X, None, 0)], 1),
                (atoms(X) + [('tie', None, None, 0), ('alike', X, Y, True)], 2),
                (integers(X) + [('alike', X, 'red', True)], 1),
                ([('alike', X, 'red', False)], 0),
                (integers(X) + atoms(X) + [('tie', X, None, 0)], 2),
                (integers(X) + [('tie', X, None, -1), ('tie', None, X, 0), ('tie', Y, None, 0)], 3)):
            self.check(words, at)

    def test_a_size_that_is_left_over_grounds(self):
        words = [kinds(X, Kinds.sized(1) | Kinds.sized(2)), kinds(X, Kinds.present() - Kinds.sized(1))]
        self.assertEqual(str(Region(words + [kinds(('x', 1), ATOM)]).kinds(('x', 1))), 'atom')
        self.check(words + [kinds(('x', 2), ATOM)], 2)

    def test_an_empty_kind_set_does_not_stop_the_looking(self):
        empty = integers(X) + atoms(X)
        self.check(empty + [('kinds',)], 2)
        self.check(empty + [kinds(('x', 0), INTEGER)], 2)
        self.assertFalse(Region(empty + integers(Y) + [('tie', Y, None, 3)]))
        self.check([kinds(X, Kinds.sized(1)), kinds(X, Kinds.sized(2)), kinds(('x', 0), INTEGER)], 2)

    def test_nothing_is_changed(self):
        region = Region(integers(X))
        words = region.words
        for word in (('tie', X, Y, 0), ('kinds', ('x', 0), INTEGER), None):
            with self.assertRaises(NoWord):
                region.with_word(word)
        self.assertEqual(region.words, words)
        listed = integers(X)
        region = Region(listed)
        listed.append(kinds(Y, ATOM))
        self.assertEqual(region.words, words)


class MemberTest(unittest.TestCase):
    def test_all_inputs(self):
        for region in (Region(), Region([]), Region(words=()), Region([kinds(X, Kinds.everything())])):
            self.assertTrue(region)
            self.assertEqual((region.words, region.conflict, region.least), ((), None, {}))
            for given in ({}, {'x': 1}, {'x': Fault('a'), 'y': ()}):
                self.assertIs(given in region, True)

    def test_faults_and_names(self):
        present, broken = Region([kinds(X, Kinds.present())]), Region([kinds(X, FAULT)])
        for given, told in (({'x': 1}, (True, False)), ({'x': ()}, (True, False)), ({'x': Fault('a')}, (False, True)),
                            ({'y': 1}, (False, False)), ({'x': 'a', 'y': 1}, (True, False))):
            self.assertEqual((given in present, given in broken), told)

    def test_parts(self):
        region = Region([kinds(X, Kinds.sized(2)), kinds(('x', 1), Kinds.sized(1)), kinds(('x', 1, 0), ATOM)])
        for value, told in (((1, ('a',)), True), (((), ('a',)), True), ((1, (2,)), False), ((1, 'a'), False),
                            ((1, ('a', 'a')), False), ((1,), False), (1, False), ((1, ('a',), 2), False),
                            (Fault('a'), False)):
            self.assertIs({'x': value} in region, told, value)

    def test_ties(self):
        region = Region(integers(X, Y) + [('tie', X, Y, -2), ('tie', None, X, 5), ('tie', Y, None, 3)])
        for x, y in itertools.product(range(-9, 9), repeat=2):
            self.assertIs({'x': x, 'y': y} in region, x - y <= -2 and -x <= 5 and y <= 3)

    def test_samenesses(self):
        region = Region(atoms(X, Y, Z) + [('alike', X, Y, True), ('alike', Y, Z, False), ('alike', Z, 'c', False)])
        for x, y, z in itertools.product('abc', repeat=3):
            self.assertIs({'x': x, 'y': y, 'z': z} in region, x == y and y != z and z != 'c')

    def test_bool_is_no_integer_for_c(self):
        with self.assertRaises(NoWord):
            Region(integers(X) + [('tie', X, None, False)])


class ConflictTest(unittest.TestCase):
    def check_empty(self, region):
        self.assertIs(bool(region), False)
        self.assertEqual((region.words, region.least, region.kinds(X)), (None, None, None))
        self.assertIs({'x': 0, 'y': 0, 'z': 'a'} in region, False)
        self.assertTrue(region == Region(integers(X) + atoms(X)))

    def test_kinds(self):
        region = Region(integers(X, Y) + atoms(Y))
        self.check_empty(region)
        self.assertEqual(region.conflict, ('kinds', Y))
        part = Region([kinds(X, Kinds.sized(1)), kinds(('x', 0), FAULT)])
        self.check_empty(part)
        self.assertEqual(part.conflict, ('kinds', ('x', 0)))

    def test_rings(self):
        for ties in (
                [(X, Y, 1), (Y, X, -2)], [(X, None, -1), (None, X, 0)], [(X, Y, 2), (Y, Z, -4), (Z, X, 1)],
                [(X, X, -1)], [(None, None, -1)], [(Z, None, 3), (X, Y, 4), (None, X, -5), (Y, X, 2), (X, None, 4)],
                [(X, Y, 9), (Y, None, 0), (X, Y, 1), (None, Y, 5), (Y, X, -2)]):
            words = integers(X, Y, Z) + [('tie', *tie) for tie in ties]
            region = Region(words)
            self.check_empty(region)
            self.assertEqual(region.conflict[0], 'cycle')
            self.assertTrue(is_ring(region.conflict[1], words), region.conflict)

    def test_rings_whose_sum_is_0(self):
        for ties in ([(X, Y, 2), (Y, X, -2)], [(X, None, -7), (None, X, 7)], [(X, Y, 2), (Y, Z, -4), (Z, X, 2)],
                     [(X, X, 0)], [(None, None, 0)]):
            region = Region(integers(X, Y, Z) + [('tie', *tie) for tie in ties])
            self.assertTrue(region)
            self.assertIsNone(region.conflict)

    def test_samenesses(self):
        for facts in (
                [(X, X, False)], [(X, Y, True), (Y, X, False)], [(X, 'a', True), (X, 'b', True)],
                [(X, 'a', True), (X, 'a', False)], [(X, Y, True), (Y, Z, True), (Z, X, False)],
                [(X, 'a', True), (Y, 'a', True), (X, Y, False)], [(X, 'a', True), (Y, 'b', True), (Y, X, True)],
                [(X, 'a', False), (X, Y, True), (Y, Z, True), (Z, 'a', True)]):
            region = Region(atoms(X, Y, Z) + [('alike', *fact) for fact in facts])
            self.check_empty(region)
            self.assertEqual(region.conflict[0], 'alike')
            self.assertTrue(set(region.conflict[1]) <= set(facts))
            self.check_no_atoms(region.conflict[1])

    def check_no_atoms(self, facts):
        for row in itertools.product(('a', 'b', 'c', 'd', 'e'), repeat=3):
            found = dict(zip((X, Y, Z), row))
            self.assertFalse(all((found[x] == found.get(y, y)) == yes for x, y, yes in facts))

    def test_several_reasons_in_their_order(self):
        p, q, r = named('pqr')
        alike = atoms(X) + [('alike', X, 'a', True), ('alike', X, 'b', True)]
        tie = integers(p) + [('tie', p, None, -1), ('tie', None, p, 0)]
        kind = integers(q) + [kinds(r, ATOM), kinds(r, INTEGER)]
        for order in itertools.permutations((alike, tie, kind)):
            self.assertEqual(Region(sum(order, [])).conflict, ('kinds', r))
        for order in itertools.permutations((alike, tie)):
            self.assertEqual(Region(sum(order, [])).conflict[0], 'cycle')
        self.assertEqual(Region(alike).conflict[0], 'alike')

    def test_without_a_member_all_goes_on(self):
        empty, full = Region(integers(X) + atoms(X)), Region(integers(X))
        other = Region(integers(Y) + [('tie', Y, Y, -1)])
        for made in (empty.with_word(('tie', Y, None, 0)), empty.with_word(None), empty & full, full & empty):
            self.check_empty(made)
            self.assertEqual(made.conflict, empty.conflict)
        self.assertIn((empty & other).conflict, (empty.conflict, other.conflict))
        self.assertIs(empty.implies(None), True)
        self.assertIs(empty.implies(('tie', Y, None, 0)), True)
        self.assertIs(empty.within(full), True)
        self.assertIs(full.within(empty), False)
        self.assertIs(empty.within(other), True)
        self.assertEqual((empty - full, empty - other, full - empty), ((), (), (full,)))

    def test_conflicts_of_regions_made_of_others(self):
        one = Region(integers(X, Y, Z) + [('tie', X, Y, -1), ('tie', Y, Z, -1)])
        last = one.with_word(('tie', Z, X, 1))
        self.assertTrue(is_ring(last.conflict[1], one.words + (('tie', Z, X, 1),)))
        other = Region(integers(X, Z) + [('tie', Z, None, 4), ('tie', None, X, -3), ('tie', X, None, 9)])
        both = one & other
        self.assertTrue(is_ring(both.conflict[1], one.words + other.words), both.conflict)
        self.assertEqual((one & Region(atoms(Y))).conflict, ('kinds', Y))
        self.assertEqual(one.with_word(kinds(Z, FAULT)).conflict, ('kinds', Z))
        pair, single = Region([kinds(X, Kinds.sized(2)), kinds(('x', 1), INTEGER)]), Region([kinds(X, Kinds.sized(1))])
        self.assertEqual((pair & single).conflict, ('kinds', X))
        red = Region(atoms(X, Y) + [('alike', X, 'red', True), ('alike', X, Y, True)])
        self.assertEqual(red.with_word(('alike', Y, 'red', False)).conflict[0], 'alike')


class NormalFormTest(unittest.TestCase):
    def test_kinds_in_place_order_without_defaults(self):
        words = [
            kinds(Y, INTEGER | ATOM), kinds(X, Kinds.everything()), kinds(Y, ATOM | FAULT), kinds(Z, Kinds.sized(11)),
            kinds(('z', 10), Kinds.present()), kinds(('z', 9), Kinds.sized(0)), kinds(('z', 2), Kinds.present() - ATOM),
            kinds(('z', 10), Kinds.everything() - FAULT), kinds(('z', 2), Kinds.everything() - INTEGER)]
        self.assertEqual(Region(words).words, (
            kinds(Y, ATOM), kinds(Z, Kinds.sized(11)), kinds(('z', 2), Kinds.of('tuple')), kinds(('z', 9), Kinds.sized(0))))

    def test_ties_that_follow(self):
        region = Region(integers(X, Y, Z) + [('tie', Z, Y, 5), ('tie', Y, X, -2), ('tie', X, None, 10), ('tie', X, Y, 4)])
        self.assertEqual(region.words[3:], (
            ('tie', X, None, 10), ('tie', X, Y, 4), ('tie', Y, None, 8), ('tie', Y, X, -2),
            ('tie', Z, None, 13), ('tie', Z, X, 3), ('tie', Z, Y, 5)))

    def test_ties_with_none_first(self):
        region = Region(integers(Y, X) + [('tie', None, Y, -3), ('tie', Y, X, 1)])
        self.assertEqual(region.words[2:], (('tie', None, X, -2), ('tie', None, Y, -3), ('tie', Y, X, 1)))

    def test_loose_ties_do_not_count(self):
        one = Region(integers(X, Y) + [('tie', X, Y, 3), ('tie', X, Y, 7), ('tie', X, X, 0), ('tie', None, None, 5)])
        self.assertEqual(one.words[2:], (('tie', X, Y, 3),))
        self.assertEqual(one, Region(integers(Y, X) + [('tie', X, Y, 3)]))

    def test_classes(self):
        a, b, c, d, e = named('abcde')
        region = Region(atoms(a, b, c, d, e) + [
            ('alike', d, b, True), ('alike', e, d, True), ('alike', c, e, False), ('alike', a, 'zz', False),
            ('alike', a, 'b', False), ('alike', a, 'aaa', False), ('alike', a, c, False), ('alike', a, 'c', False)])
        self.assertEqual(region.words[5:], (
            ('alike', a, 'b', False), ('alike', a, 'c', False), ('alike', a, 'zz', False), ('alike', a, 'aaa', False),
            ('alike', a, c, False), ('alike', b, d, True), ('alike', b, e, True), ('alike', b, c, False)))

    def test_literals(self):
        a, b, c, d, e = named('abcde')
        region = Region(atoms(a, b, c, d, e) + [
            ('alike', c, 'red', True), ('alike', d, c, False), ('alike', e, 'blue', False), ('alike', b, 'red', True),
            ('alike', e, b, False), ('alike', a, d, True)])
        self.assertEqual(region.words[5:], (
            ('alike', a, d, True), ('alike', a, 'red', False), ('alike', b, c, True), ('alike', b, 'red', True),
            ('alike', e, 'red', False), ('alike', e, 'blue', False)))
        two = Region(atoms(a, b) + [('alike', a, 'x', True), ('alike', b, 'y', True), ('alike', a, b, False)])
        self.assertEqual(two.words[2:], (('alike', a, 'x', True), ('alike', b, 'y', True)))

    def test_a_class_joins_what_its_places_differ_from(self):
        a, b, c, d = named('abcd')
        region = Region(atoms(a, b, c, d) + [
            ('alike', d, c, False), ('alike', b, 'q', False), ('alike', c, b, True), ('alike', a, d, True)])
        self.assertEqual(region.words[4:], (
            ('alike', a, d, True), ('alike', a, b, False), ('alike', b, c, True), ('alike', b, 'q', False)))

    def test_equal_regions_that_were_built_otherwise(self):
        one = Region(integers(X, Y) + [('tie', X, Y, 0), ('tie', Y, X, 0), ('tie', X, None, 4)])
        other = Region(integers(Y, X) + [('tie', Y, None, 4), ('tie', Y, X, 0), ('tie', X, Y, 0)])
        self.assertEqual(one.words, other.words)
        self.assertTrue(one == other)
        self.assertFalse(one != other)
        for thing in (one.words, None, 3, Kinds.everything()):
            self.assertIs(one == thing, False)


class ComparingTest(unittest.TestCase):
    def test_kinds(self):
        region = Region([kinds(X, Kinds.sized(2)), kinds(('x', 0), INTEGER | ATOM), kinds(Y, FAULT)])
        self.assertEqual([str(region.kinds(place)) for place in (X, ('x', 0), ('x', 1), Y, Z)],
                         ['tuple 2', 'integer|atom', 'integer|atom|tuple', 'fault', 'integer|atom|tuple|fault'])
        for place in (('x', 2), ('x', 0, 0), ('y', 0), ('z', 0)):
            self.assertIsNone(region.kinds(place))
        self.assertEqual(str(region.kinds(p=Y)), 'fault')

    def test_implies(self):
        region = Region(integers(X, Y) + atoms(Z) + [('tie', X, Y, 2), ('tie', Y, None, 3), ('alike', Z, 'a', False)])
        for word, told in (
                (('tie', X, Y, 2), True), (('tie', X, Y, 3), True), (('tie', X, Y, 1), False), (('tie', X, None, 5), True),
                (('tie', X, None, 4), False), (('tie', Y, X, 100), False), (('tie', X, X, 0), True),
                (('tie', X, X, -1), False), (('tie', None, None, 0), True), (('tie', None, None, -1), False),
                (('tie', X, Z, 0), False), (('alike', Z, 'a', False), True), (('alike', Z, 'a', True), False),
                (('alike', Z, 'b', False), False), (('alike', Z, Z, True), True), (('alike', Z, Z, False), False),
                (kinds(X, Kinds.present()), True), (kinds(X, INTEGER | FAULT), True), (kinds(X, ATOM), False),
                (kinds(('x', 0), Kinds.everything()), False), (kinds(('w',), Kinds.everything()), True),
                (kinds(('w',), Kinds.present()), False), (('tie', ('w',), None, 0), False)):
            self.assertIs(region.implies(word), told, word)
        self.assertIs(region.implies(word=('tie', X, Y, 2)), True)

    def test_implies_of_atoms(self):
        a, b, c = named('abc')
        region = Region(atoms(a, b, c) + [('alike', a, 'red', True), ('alike', b, a, False), ('alike', c, 'blue', True)])
        for word, told in (
                (('alike', a, 'red', True), True), (('alike', a, 'blue', False), True), (('alike', b, 'red', False), True),
                (('alike', a, c, False), True), (('alike', c, b, False), False), (('alike', c, b, True), False)):
            self.assertIs(region.implies(word), told, word)

    def test_atoms_that_become_known_later(self):
        a, b, c, d = named('abcd')
        for first, second in ((b, c), (c, b)):
            apart = Region(atoms(a, b, c, d)).with_word(('alike', first, second, False))
            red = apart.with_word(('alike', b, 'red', True))
            joined = apart.with_word(('alike', a, b, True)).with_word(('alike', d, c, True))
            for region, one, other in ((red, b, c), (red, c, b), (red, c, 'red'), (joined, a, d), (joined, d, a),
                                       (joined, b, c), (joined, c, b), (joined, a, c), (joined, d, b)):
                self.assertIs(region.implies(('alike', one, other, False)), True)
                self.assertIs(region.implies(('alike', one, other, True)), False)
                self.assertEqual(region.with_word(('alike', one, other, True)).conflict[0], 'alike')
            self.assertIs(red.implies(('alike', b, d, False)), False)

    def test_within_and_common_members(self):
        wide = Region(integers(X) + [('tie', X, None, 9)])
        narrow = Region(integers(X, Y) + [('tie', X, None, 4)])
        self.assertEqual((narrow.within(wide), wide.within(narrow), wide.within(other=wide)), (True, False, True))
        self.assertEqual(wide & narrow, narrow)
        self.assertEqual(Region() & wide, wide)
        self.assertIs(wide.within(Region()), True)
        self.assertIs(Region().within(wide), False)
        self.assertIs(Region([kinds(X, FAULT)]).within(Region([kinds(('x',), Kinds.everything())])), True)

    def test_with_word(self):
        region = Region(integers(X))
        more = region.with_word(word=('tie', X, None, 3))
        self.assertEqual(more.words, (kinds(X, INTEGER), ('tie', X, None, 3)))
        self.assertEqual(region.words, (kinds(X, INTEGER),))


class DifferenceTest(unittest.TestCase):
    def test_word_by_word(self):
        a = Region(integers(X))
        b = Region(integers(X, Y) + [('tie', X, Y, 3)])
        self.assertEqual([part.words for part in a - b], [
            (kinds(X, INTEGER), kinds(Y, Kinds.everything() - INTEGER)),
            (kinds(X, INTEGER), kinds(Y, INTEGER), ('tie', Y, X, -4))])

    def test_samenesses(self):
        a = Region(atoms(X, Y))
        b = a.with_word(('alike', X, Y, True)).with_word(('alike', X, 'red', False))
        self.assertEqual([part.words[2:] for part in a - b], [
            (('alike', X, Y, False),), (('alike', X, Y, True), ('alike', X, 'red', True))])
        c = a.with_word(('alike', X, 'red', True))
        self.assertEqual([part.words[2:] for part in a - c], [(('alike', X, 'red', False),)])

    def test_the_opposite_of_kinds_at_a_part_has_no_fault(self):
        a = Region([kinds(X, Kinds.sized(1))])
        b = a.with_word(kinds(('x', 0), INTEGER))
        self.assertEqual([part.words for part in a - b], [
            (kinds(X, Kinds.sized(1)), kinds(('x', 0), Kinds.present() - INTEGER))])
        self.assertEqual([part.words for part in Region() - a], [(kinds(X, Kinds.everything() - Kinds.sized(1)),)])

    def test_nothing_and_all(self):
        a = Region(integers(X))
        empty = Region(integers(X) + atoms(X))
        self.assertEqual(a - a, ())
        self.assertEqual(a - Region(), ())
        self.assertEqual(a - empty, (a,))
        self.assertEqual(empty - a, ())
        self.assertEqual(empty - empty, ())
        self.assertEqual(a - Region(atoms(X)), (a,))
        self.assertIsInstance(a - a, tuple)

    def test_parts_that_b_alone_grounds(self):
        b = Region([kinds(X, Kinds.sized(2)), *integers(('x', 0), ('x', 1)), ('tie', ('x', 0), ('x', 1), -1)])
        parts = Region() - b
        self.assertEqual(len(parts), 4)
        for given in ({'x': (1, 1)}, {'x': (0, 'a')}, {'x': ('a', 0)}, {'x': 5}, {'x': Fault('a')}, {'x': (0, 1)}):
            self.assertEqual(sum(given in part for part in parts), 0 if given in b else 1)


class LeastTest(unittest.TestCase):
    def check(self, words, least):
        region = Region(words)
        self.assertEqual(region.least, least)
        self.assertIn(least, region)

    def test_kinds(self):
        tuples = Kinds.of('tuple')
        for kind_set, value in (
                (Kinds.present(), 0), (ATOM | FAULT, 'a'), (tuples, ()), (tuples - Kinds.sized(0), (0,)),
                (Kinds.sized(3) | Kinds.sized(2) | FAULT, (0, 0)), (FAULT, Fault('read')),
                (tuples - Kinds.sized(0) - Kinds.sized(1), (0, 0)), (Kinds.everything() - INTEGER, 'a')):
            self.check([kinds(X, kind_set)], {'x': value})
        self.assertEqual(Region([kinds(X, FAULT)]).least['x'].word, 'read')

    def test_integers(self):
        for ties, value in (
                ([(X, None, 5)], 0), ([(None, X, -3)], 3), ([(X, None, -3)], -3), ([(None, X, 4), (X, None, -2)], -2),
                ([(None, X, 0)], 0), ([(X, None, 0)], 0), ([(None, X, 4)], 0)):
            self.check(integers(X) + [('tie', *tie) for tie in ties], {'x': value})

    def test_one_integer_after_another(self):
        self.check(integers(X, Y) + [('tie', X, Y, -2)], {'x': 0, 'y': 2})
        self.check(integers(X, Y) + [('tie', Y, X, -2)], {'x': 0, 'y': -2})
        self.check(integers(X, Y, Z) + [('tie', X, Y, -1), ('tie', Y, Z, -1), ('tie', Z, None, 1)],
                   {'x': -1, 'y': 0, 'z': 1})
        self.check(integers(X, Y) + [('tie', X, Y, -4), ('tie', Y, None, 3), ('tie', None, X, 1)], {'x': -1, 'y': 3})

    def test_atoms(self):
        self.check(atoms(X, Y, Z) + [('alike', X, Y, False), ('alike', Y, Z, False)], {'x': 'a', 'y': 'b', 'z': 'a'})
        self.check(atoms(X, Y) + [('alike', X, Y, True), ('alike', Y, 'a', False)], {'x': 'b', 'y': 'b'})
        self.check(atoms(X, Y) + [('alike', Y, 'a', True), ('alike', X, Y, False)], {'x': 'b', 'y': 'a'})

    def test_many_excluded_atoms(self):
        some = list(string.ascii_lowercase) + ['aa', 'ab', 'ad']
        words = atoms(X, Y) + [('alike', X, atom, False) for atom in some]
        self.check(words, {'x': 'ac', 'y': 'a'})
        self.check(words + [('alike', X, Y, True)], {'x': 'ac', 'y': 'ac'})
        every = [''.join(row) for size in (1, 2) for row in itertools.product(string.ascii_lowercase, repeat=size)]
        self.check(atoms(X) + [('alike', X, atom, False) for atom in every], {'x': 'aaa'})
        self.check(atoms(X) + [('alike', X, atom, False) for atom in every if atom != 'zz'], {'x': 'zz'})
        self.check(atoms(X) + [('alike', X, atom, False) for atom in every if atom != 'ba'], {'x': 'ba'})

    def test_parts_in_place_order(self):
        p, q, r = ('x', 0), ('x', 1, 0), ('x', 2)
        self.check([kinds(X, Kinds.sized(3)), kinds(('x', 1), Kinds.sized(1)), *integers(p, q, r),
                    ('tie', p, q, -1), ('tie', q, r, -1)], {'x': (0, (1,), 2)})

    def test_exactly_the_names_of_the_normal_form_and_new_dicts(self):
        region = Region(integers(X) + [kinds(Y, Kinds.everything())])
        self.assertEqual(region.least, {'x': 0})
        found = region.least
        found['x'] = 7
        self.assertEqual(region.least, {'x': 0})


if __name__ == '__main__':
    unittest.main()
