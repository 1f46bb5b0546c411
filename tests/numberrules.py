"""Random rules over integers: inputs x and y are integers, t is a tuple of integers; cells return integers or pairs."""

import random

from runlore.sheets import Sheet
from runlore.trees import Book

INPUTS = ('t', 'x', 'y')
CELLS = ('a', 'b', 'c')


class NumberWriter:
    """Bodies that mostly return integers, without faults where x, y and all parts of t are integers."""

    def __init__(self, seed, cells):
        self.chance = random.Random(seed)
        self.cells = cells
        self.many = 0

    def fresh(self):
        self.many += 1
        return 'n' + ''.join('abcdefghij'[int(digit)] for digit in str(self.many))

    def number(self, deep, scope):
        chance = self.chance
        leaves = [('read', 'x'), ('read', 'y'), ('int', chance.randint(-3, 3))]
        leaves += [('name', name) for name in scope] + [('read', cell) for cell in self.cells]
        if deep == 0:
            return chance.choice(leaves)
        word = chance.choice(['if', 'if', 'if', 'plus', 'plus', 'fold', 'let', 'part', 'leaf'])
        if word == 'if':
            return (word, self.test(deep - 1, scope), self.number(deep - 1, scope), self.number(deep - 1, scope))
        if word == 'plus':
            return (word, self.number(deep - 1, scope), chance.randint(-3, 3))
        if word == 'let':
            name = self.fresh()
            return (word, name, self.number(deep - 1, scope), self.number(deep - 1, scope + (name,)))
        if word == 'fold':
            held, name = self.fresh(), self.fresh()
            inner = self.number(deep - 1, scope + (held, name))
            return (word, held, self.number(deep - 1, scope), name, self.numbers(deep - 1, scope), inner)
        if word == 'part':
            return (word, ('tuple', (self.number(deep - 1, scope), self.number(deep - 1, scope))), chance.randint(0, 1))
        return chance.choice(leaves)

    def numbers(self, deep, scope):
        """An expression that returns a tuple of integers."""
        chance = self.chance
        word = chance.choice(['read', 'read', 'pick', 'each', 'tuple']) if deep else 'read'
        if word == 'read':
            return (word, 't')
        if word == 'tuple':
            return (word, tuple(self.number(deep - 1, scope) for _ in range(chance.randint(0, 2))))
        name = self.fresh()
        if word == 'pick':
            return (word, name, ('read', 't'), self.test(deep - 1, scope + (name,)))
        return (word, name, ('read', 't'), self.number(deep - 1, scope + (name,)))

    def test(self, deep, scope):
        chance = self.chance
        word = chance.choice(['most'] * 5 + ['not', 'both', 'either', 'is', 'sized'])
        if word == 'most' or deep <= 0:
            return ('most', self.number(max(deep - 1, 0), scope), chance.randint(-3, 3), self.number(max(deep - 1, 0), scope))
        if word == 'not':
            return (word, self.test(deep - 1, scope))
        if word == 'is':
            return (word, chance.choice(('integer', 'atom')), self.number(deep - 1, scope))
        if word == 'sized':
            return (word, self.numbers(deep - 1, scope), chance.randint(0, 2))
        return (word, self.test(deep - 1, scope), self.test(deep - 1, scope))

    def body(self, deep):
        """A number, or now and then a tuple, an atom or a fault."""
        chance = self.chance
        word = chance.choice(['number'] * 6 + ['pair', 'atoms', 'fail', 'whole'])
        if word == 'pair':
            return ('tuple', (self.number(deep - 1, ()), self.number(deep - 1, ())))
        if word == 'whole':
            return ('if', self.test(deep - 1, ()), ('read', 't'), self.numbers(deep - 1, ()))
        if word == 'atoms':
            return ('if', self.test(deep - 1, ()), ('atom', 'up'), ('atom', 'down'))
        if word == 'fail':
            return ('if', self.test(deep - 1, ()), ('fail', 'bad'), self.number(deep - 1, ()))
        return self.number(deep, ())


def numbers_sheet(seed, deep=4, cells=CELLS):
    """A sheet whose cells read the cells before them; now and then two of them read one another."""
    rows = []
    for at, name in enumerate(cells):
        others = cells[:at] if random.Random(seed + at).random() < 0.9 else cells
        rows.append((name, NumberWriter((seed, at).__hash__(), others).body(deep)))
    return Sheet(Book(()), INPUTS, tuple(rows))


def number_inputs(chance, span=4, most=3):
    """Integers for x and y, and a tuple of integers for t."""
    given = {'x': chance.randint(-span, span), 'y': chance.randint(-span, span)}
    return {**given, 't': tuple(chance.randint(-span, span) for _ in range(chance.randint(0, most)))}
