"""Regions against a plain search over small inputs: promises [21] to [26]."""

import itertools
import unittest

from runlore.errors import NoWord
from runlore.regions import Region
from search import (
    ATOMS, PLACES, dice, grounded_after, inputs_key, kinds_after, meets_all, random_word, random_words, rich_words,
    small_inputs)

INPUTS = small_inputs(('x', 'y'))
FEW = INPUTS[::7]


def some_regions(seed, many):
    """Pairs of words and their region."""
    chance = dice(seed)
    for turn in range(many):
        words = rich_words(chance, 7) if turn % 3 else random_words(chance, 7)
        yield words, Region(words)


def is_ring(ties):
    heads = [x for x, _, _ in ties]
    return heads[1:] + heads[:1] == [y for _, y, _ in ties] and sum(c for _, _, c in ties) < 0


def atoms_meet(facts):
    places = sorted({end for fact in facts for end in fact[:2] if isinstance(end, tuple)})
    letters = sorted({end for fact in facts for end in fact[:2] if isinstance(end, str)})
    for row in itertools.product(letters + ['pa', 'pb', 'pc', 'pd', 'pe'][:len(places)], repeat=len(places)):
        found = dict(zip(places, row))
        if all((found[x] == found.get(y, y)) == yes for x, y, yes in facts):
            return True
    return False


class SearchTest(unittest.TestCase):
    def test_grounding(self):
        chance = dice(1)
        refused = 0
        for _ in range(1500):
            words = random_words(chance, 4)
            word = random_word(chance, words)
            if grounded_after(words, word):
                Region(words + [word])
                continue
            refused += 1
            with self.assertRaises(NoWord) as caught:
                Region(words + [word, ('kinds',)])
            self.assertEqual(caught.exception.at, len(words))
        self.assertGreater(refused, 25)

    def test_membership_least_and_conflict(self):
        empty = {'kinds': 0, 'cycle': 0, 'alike': 0}
        for words, region in some_regions(2, 700):
            members = [given for given in FEW if meets_all(words, given)]
            self.assertEqual([given for given in FEW if given in region], members)
            self.assertIs(bool(region), region.conflict is None)
            if region:
                self.check_least(words, region)
                continue
            empty[region.conflict[0]] += 1
            self.assertEqual(members, [])
            self.assertIsNone(region.words)
            self.assertIsNone(region.least)
            self.check_conflict(words, region.conflict)
        self.assertGreater(min(empty.values()), 10)

    def check_least(self, words, region):
        least = region.least
        names = sorted({place[0] for _, place, *_ in region.words if place is not None})
        self.assertEqual(sorted(least), names)
        self.assertTrue(meets_all(words, least), (words, least))
        self.assertIn(least, region)
        for given in small_inputs(names) if len(names) < 2 else INPUTS:
            if inputs_key(given) < inputs_key(least):
                self.assertFalse(meets_all(words, given), (words, least, given))

    def check_conflict(self, words, conflict):
        if conflict[0] == 'kinds':
            self.assertEqual(kinds_after(words, conflict[1]), set())
            return
        self.assertTrue(Region([word for word in words if word[0] == 'kinds']))
        if conflict[0] == 'cycle':
            self.assertTrue(is_ring(conflict[1]), conflict)
            self.assertTrue(all(('tie', *triple) in words for triple in conflict[1]))
        else:
            self.assertTrue(Region([word for word in words if word[0] != 'alike']))
            self.assertTrue(all(('alike', *triple) in words for triple in conflict[1]))
            self.assertFalse(atoms_meet(conflict[1]))

    def test_normal_form_is_a_normal_form(self):
        for words, region in some_regions(3, 400):
            if region:
                again = Region(region.words)
                self.assertEqual(again.words, region.words)
                self.assertEqual(again, region)
                shuffled = Region(list(region.words) + words + list(region.words))
                self.assertEqual(shuffled.words, region.words)

    def test_normal_form_tells_all_that_follows(self):
        for _, region in some_regions(4, 250):
            if region:
                self.check_ties(region)
                self.check_atoms(region)

    def check_ties(self, region):
        ends = [None] + [p for p in PLACES if region.kinds(p) and region.kinds(p).only == 'integer']
        told = {word[1:3]: word[3] for word in region.words if word[0] == 'tie'}
        for x, y in itertools.permutations(ends, 2):
            bound = told.get((x, y))
            far = -1000 if bound is None else -bound
            self.assertTrue(region.with_word(('tie', y, x, far)))
            if bound is not None:
                self.assertFalse(region.with_word(('tie', y, x, far - 1)))

    def check_atoms(self, region):
        places = [p for p in PLACES if region.kinds(p) and region.kinds(p).only == 'atom']
        for x in places:
            for y in places + list(ATOMS) + ['zz']:
                for yes in (True, False):
                    follows = not region.with_word(('alike', x, y, not yes))
                    self.assertEqual(region.implies(('alike', x, y, yes)), follows)

    def test_two_regions(self):
        chance = dice(5)
        for turn in range(400):
            words = rich_words(chance, 4)
            one = words + random_words_behind(chance, words, 2)
            other = words + random_words_behind(chance, words, 2) if turn % 3 else rich_words(chance, 4)
            self.check_two(one, other)

    def check_two(self, one, other):
        a, b = Region(one), Region(other)
        both, rest = a & b, a - b
        for given in FEW:
            in_a, in_b = meets_all(one, given), meets_all(other, given)
            self.assertEqual(given in both, in_a and in_b)
            self.assertEqual(sum(given in part for part in rest), in_a and not in_b)
        for part in rest:
            self.assertTrue(part.within(a))
            self.assertFalse(part & b)
            # Names of which a region does not speak may have any value.
            member = {'x': 0, 'y': 0, **part.least}
            self.assertTrue(meets_all(one, member) and not meets_all(other, member))
        for first, second in itertools.combinations(rest, 2):
            self.assertFalse(first & second)
        self.assertEqual(a.within(b), rest == ())
        self.assertEqual(a == b, a.within(b) and b.within(a))
        self.assertEqual(a == b, a.words == b.words)
        if not both:
            self.assertIsNone(both.words)
            self.check_two_conflict(a, b, both.conflict)

    def check_two_conflict(self, a, b, conflict):
        if a and b and conflict[0] != 'kinds':
            known = a.words + b.words
            sort = 'tie' if conflict[0] == 'cycle' else 'alike'
            self.assertTrue(all((sort, *triple) in known for triple in conflict[1]))
            self.assertTrue(is_ring(conflict[1]) if sort == 'tie' else not atoms_meet(conflict[1]))

    def test_implies(self):
        chance = dice(6)
        for words, region in some_regions(7, 500):
            word = random_word(chance, words)
            if not region:
                self.assertIs(region.implies(word), True)
            elif not grounded_after(words, word):
                self.assertIs(region.implies(word), False)
            else:
                self.assertEqual(region.implies(word), region.within(Region(words + [word])))


def random_words_behind(chance, words, many):
    more = []
    for _ in range(many):
        word = random_word(chance, words + more)
        if grounded_after(words + more, word):
            more.append(word)
    return more


if __name__ == '__main__':
    unittest.main()
