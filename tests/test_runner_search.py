"""Plain runs against a recursive interpreter: promises [11] to [14]."""

import random
import unittest

from reference import Writer, run
from runlore.runner import plain
from runlore.trees import Book
from runlore.values import Fault

NAMES = ('x', 'y', 'z')


def some_given(chance):
    values = (0, 1, -2, 'a', 'x', 'y', (), (1, 2), (3, ('a', 1)), ((0, 0), (1,), ()), (1, -1, 2, 0, 5))
    given = {name: chance.choice(values) for name in NAMES}
    if chance.random() < 0.1:
        given[chance.choice(NAMES)] = Fault('bad')
    return given


class RunnerSearchTest(unittest.TestCase):
    def check(self, book, body, given, counts):
        before = dict(given)
        found = plain(Book(book), body, given, rule='cell')
        want = run(book, body, given, 'cell')
        self.assertEqual(found, want, (book, body, given))
        self.assertIs(type(found), type(want))
        self.assertEqual(given, before)
        if isinstance(want, Fault):
            self.assertEqual((found.rule, found.path), (want.rule, want.path), (book, body, given))
            counts[want.word] = counts.get(want.word, 0) + 1
        else:
            counts['value'] = counts.get('value', 0) + 1

    def test_random_bodies(self):
        counts = {}
        for seed in range(3000):
            writer = Writer(seed, NAMES)
            one = ('d', ('p', 'q'), None, writer.expression(3, ('p', 'q')))
            two = ('e', ('p',), None, writer.expression(3, ('p',), (('d', 2),)))
            body = writer.expression(5, (), (('d', 2), ('e', 1)))
            chance = random.Random(seed)
            for _ in range(3):
                self.check((one, two), body, some_given(chance), counts)
        self.assertGreater(counts['value'], 1000)
        for word in ('kind', 'part', 'read', 'bad'):
            self.assertGreater(counts[word], 30, counts)

    def test_long_random_bodies(self):
        """Bodies that grow tuples in loops, so that the work often comes near its bound."""
        counts = {}
        doubled = ('fold', 'a', ('name', 'p'), 'o', ('read', 'x'), ('join', ('name', 'a'), ('name', 'a')))
        for seed in range(400):
            writer = Writer(seed, NAMES)
            other = ('h', ('p', 'q'), None, writer.expression(4, ('p', 'q'), (('g', 2),)))
            definitions = (('g', ('p', 'q'), None, doubled), other)
            start = ('tuple', (('int', 1),) * (seed % 7))
            body = ('call', 'h', (('call', 'g', (start, ('int', 0))), writer.expression(2, ())))
            given = {'x': tuple(range(seed % 11)), 'y': (1, 2), 'z': ('a', 3)}
            self.check(definitions, body, given, counts)
        self.assertGreater(counts['long'], 20, counts)
        self.assertGreater(counts['value'], 20, counts)


if __name__ == '__main__':
    unittest.main()
