"""Plain runs that write down what they read and glance at, and random rules with small inputs."""

import random

from reference import Writer
from runlore.runner import PlainView, finished
from runlore.runs import run_to_end
from runlore.runstates import started
from runlore.sheets import Sheet
from runlore.trees import Book
from runlore.values import Fault

INPUTS = ('x', 'y')


class LoggingView(PlainView):
    def __init__(self, names, given):
        PlainView.__init__(self, given)
        self.names = names
        self.log = []

    def reachable(self):
        return list(self.names)

    def told(self, name):
        thing = PlainView.told(self, name)
        self.log.append((name, thing is not None))
        return thing

    def is_kind(self, thing, word):
        self.log.append(PlainView.is_kind(self, thing, word))
        return self.log[-1]

    def count_of(self, thing):
        self.log.append(len(thing))
        return len(thing)

    def is_sized(self, thing, k):
        self.log.append(len(thing) == k)
        return self.log[-1]

    def is_most(self, one, c, other):
        self.log.append(one + c <= other)
        return self.log[-1]

    def is_alike(self, one, other):
        self.log.append(one == other)
        return self.log[-1]


def logged(sheet, cell, given):
    """All reads and glances of a plain run with their outcomes, and what it returns."""
    view = LoggingView(sheet.names, given)
    run = started(sheet.book, sheet.body(cell), cell, view)
    run_to_end(run)
    return repr(view.log), finished(run.stack[-1]) if run.fault is None else run.fault


def random_sheet(seed, deep=4):
    """A sheet with the inputs x and y and the cell c, which calls a definition."""
    writer = Writer(seed, INPUTS)
    one = ('d', ('p', 'q'), None, writer.expression(2, ('p', 'q')))
    return Sheet(Book((one,)), INPUTS, (('c', writer.expression(deep, (), (('d', 2),))),))


def some_values(chance, box):
    """A value in the box, mostly of small integers."""
    kind = chance.choice(('integer', 'integer', 'atom', 'tuple'))
    if kind == 'tuple' and box.depth > 0:
        inner = type(box)(box.size, box.depth - 1)
        return tuple(some_values(chance, inner) for _ in range(chance.randint(0, box.size)))
    return chance.choice(('a', 'b', 'x', 'y')) if kind == 'atom' else chance.randint(-2, 2)


def some_inputs(seed, box, many):
    """Inputs for x and y in the box."""
    chance = random.Random(seed)
    found = []
    for _ in range(many):
        given = {name: some_values(chance, box) for name in INPUTS}
        if chance.random() < 0.1:
            given[chance.choice(INPUTS)] = Fault('bad')
        found.append({**given, 'c': 0})
    return found
