"""Terms in regions against a plain search over small inputs: promises [27] and [28]."""

import unittest

from runlore.kindsets import Kinds
from runlore.regions import Region
from runlore.terms import Built, Literal, Shifted, Whole
from runlore.values import Fault, kind_of
from search import PLACES, dice, grounded_after, meets_all, random_words, rich_words, small_inputs

INPUTS = small_inputs(('x', 'y'))


def present_places(region):
    """The places that are there without a fault."""
    found = []
    for place in PLACES + (('x', 0, 0), ('y', 1, 0)):
        kinds = region.kinds(place)
        if kinds is not None and 'fault' not in kinds:
            found.append(place)
    return found


def random_term(chance, region, deep=2):
    places = present_places(region)
    integers = [place for place in places if region.kinds(place).only == 'integer']
    sort = chance.choice(('number', 'atom', 'whole', 'whole', 'whole', 'shifted', 'shifted', 'built'))
    if sort == 'whole' and places:
        return Whole(chance.choice(places))
    if sort == 'shifted' and integers:
        return Shifted(chance.choice(integers), chance.randint(-2, 2))
    if sort == 'built' and deep:
        return Built([random_term(chance, region, deep - 1) for _ in range(chance.randint(0, 2))])
    return Literal(chance.choice('ab')) if sort == 'atom' else Literal(chance.randint(-1, 1))


def full_regions(seed, many):
    chance = dice(seed)
    while many:
        words = rich_words(chance, 6) if chance.random() < 0.8 else random_words(chance, 5)
        region = Region(words)
        if region:
            many -= 1
            yield chance, words, region


class WrittenTest(unittest.TestCase):
    def test_written_keeps_values_and_is_unique(self):
        alike = 0
        for chance, words, region in full_regions(11, 400):
            members = [given for given in INPUTS[::3] if meets_all(words, given)]
            one, other = random_term(chance, region), random_term(chance, region)
            for term in (one, other):
                written = region.written(term)
                self.assertEqual([written(given) for given in members], [term(given) for given in members])
                self.assertEqual(str(region.written(written)), str(written))
            if region.written(one) == region.written(other):
                alike += 1
                self.assertIsNone(region.distinguish(one, other))
                self.assertEqual([one(given) for given in members], [other(given) for given in members])
            else:
                self.check_telling(region, words, one, other)
        self.assertGreater(alike, 20)

    def check_telling(self, region, words, one, other):
        member = region.distinguish(one, other)
        self.assertIn(member, region)
        self.assertTrue(meets_all(words, {'x': 0, 'y': 0, **member}))
        self.assertNotEqual(one(member), other(member))

    def test_equal_terms_are_written_alike(self):
        """Terms that agree at all members, as `implies` tells it, are written alike."""
        for chance, words, region in full_regions(12, 400):
            integers = [p for p in present_places(region) if region.kinds(p).only == 'integer']
            atoms = [p for p in present_places(region) if region.kinds(p).only == 'atom']
            for x in integers:
                for y in integers:
                    for by in (-1, 0, 1):
                        same = region.implies(('tie', x, y, by)) and region.implies(('tie', y, x, -by))
                        self.assertEqual(region.written(Whole(x)) == region.written(Shifted(y, by)), same)
            for x in atoms:
                for y in atoms:
                    same = region.implies(('alike', x, y, True))
                    self.assertEqual(region.written(Whole(x)) == region.written(Whole(y)), same)


GOAL_PLACES = (('r',), ('r', 0), ('r', 1), ('x',), ('x', 0), ('y',))


def goal_words(chance, value):
    """Words of a goal that the value mostly meets as far as kinds go."""
    words = []
    for place, part in [(('r',), value)] + [(('r', at), part) for at, part in enumerate(parts_of(value))]:
        if chance.random() < 0.9:
            words.append(('kinds', place, kind_set(part)))
    if words[:1] and words[0][1] != ('r',):
        words = []
    for word in random_words(chance, 4, GOAL_PLACES):
        fits = word[0] != 'kinds' or word[1][0] != 'r'
        if fits and grounded_after(words, word):
            words.append(word)
    return words


def parts_of(value):
    return value[:2] if isinstance(value, tuple) else ()


def kind_set(value):
    if isinstance(value, Fault):
        return Kinds.of('fault')
    return Kinds.sized(len(value)) if isinstance(value, tuple) else Kinds.of(kind_of(value))


class SubstitutedTest(unittest.TestCase):
    def test_against_search(self):
        met = unmet = 0
        for chance, words, base in full_regions(13, 900):
            result = Fault('kind') if chance.random() < 0.1 else random_term(chance, base)
            wanted = goal_words(chance, value_of(result, base))
            name = 'r'
            if chance.random() < 0.3 and not any(speaks_of_x(word) for word in wanted):
                name = 'x'
                wanted = [renamed(word) for word in wanted]
            goal = Region(wanted)
            moved = goal.substituted(name, result, base)
            if not moved:
                self.assertIsInstance(moved.conflict, tuple)
            members = [given for given in INPUTS if meets_all(words, given)]
            for given in chance.sample(members, min(len(members), 40)) + INPUTS[::101]:
                want = False
                if meets_all(words, given):
                    put = {**given, name: result if isinstance(result, Fault) else result(given)}
                    want = meets_all(wanted, put)
                    met, unmet = met + want, unmet + (not want)
                self.assertEqual(given in moved, want, (wanted, str(result), words, given))
        self.assertGreater(met, 500)
        self.assertGreater(unmet, 500)


def value_of(result, base):
    return result if isinstance(result, Fault) else result({'x': 0, 'y': 0, **base.least})


def renamed(word):
    """The word, speaking of x where it spoke of r."""
    return tuple(('x', *item[1:]) if isinstance(item, tuple) and item[0] == 'r' else item for item in word)


def speaks_of_x(word):
    return any(isinstance(item, tuple) and item[0] == 'x' for item in word)


if __name__ == '__main__':
    unittest.main()
