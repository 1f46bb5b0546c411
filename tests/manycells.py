"""Random sheets of several cells that read one another, and what all their runs glance at."""

import itertools
import random

from glances import LoggingView
from reference import Writer
from runlore.asking import Asking, AskingView, close_ring, next_wanted
from runlore.boxes import Box
from runlore.runstates import started
from runlore.sheets import Sheet
from runlore.trees import Book
from runlore.values import Fault

INPUTS = ('x', 'y')
CELLS = ('a', 'b', 'c')


def cells_sheet(seed, deep=3, cells=CELLS):
    """A sheet with the inputs x and y, whose cells read inputs, one another and themselves."""
    writer = Writer(seed, INPUTS + INPUTS + cells)
    one = ('d', ('p', 'q'), None, writer.expression(2, ('p', 'q')))
    return Sheet(Book((one,)), INPUTS, tuple((name, writer.expression(deep, (), (('d', 2),))) for name in cells))


class CellsView(AskingView):
    """What a run of a cell sees; all its glances, and its reads of inputs, are logged."""

    def __init__(self, asking, log):
        AskingView.__init__(self, asking)
        self.log = log

    def told(self, name):
        thing = AskingView.told(self, name)
        self.log.append((name, thing is not None))
        return thing

    is_kind = LoggingView.is_kind
    count_of = LoggingView.count_of
    is_sized = LoggingView.is_sized
    is_most = LoggingView.is_most
    is_alike = LoggingView.is_alike


def logged_cells(sheet, cell, given):
    """All reads and glances of all cells that are run for this one, by cell, and what it returns."""
    asking = Asking(sheet, given)
    logs, waiting, wanted = {}, {}, cell
    while wanted is not None:
        if wanted in waiting:
            close_ring(asking.found, waiting, wanted)
        else:
            logs[wanted] = []
            waiting[wanted] = started(sheet.book, sheet.body(wanted), wanted, CellsView(asking, logs[wanted]))
        wanted = next_wanted(asking, waiting)
    return repr(logs), asking.found[cell]


def value_in(chance, box, span=3):
    """A value in the box, mostly of small integers."""
    kind = chance.choice(('integer', 'integer', 'integer', 'atom', 'tuple'))
    if kind == 'tuple' and box.depth > 0:
        inner = Box(box.size, box.depth - 1)
        return tuple(value_in(chance, inner, span) for _ in range(chance.randint(0, box.size)))
    return chance.choice(('a', 'b', 'x', 'y')) if kind == 'atom' else chance.randint(-span, span)


def inputs_in(chance, box, names=INPUTS, span=3):
    """Inputs in the box; now and then one is lacking."""
    return {name: value_in(chance, box, span) for name in names if chance.random() < 0.95}


def filled(given, names=INPUTS):
    """Inputs that have faults where they were lacking."""
    return {name: given.get(name, Fault('read')) for name in names}


def integer_places(given):
    """All places of inputs with integers, and these."""
    found, todo = {}, [((name,), given[name]) for name in sorted(given)]
    while todo:
        place, thing = todo.pop()
        if isinstance(thing, int):
            found[place] = thing
        elif isinstance(thing, tuple):
            todo.extend((place + (index,), part) for index, part in enumerate(thing))
    return found


def moved_to(given, numbers):
    """Inputs with other integers at places."""
    def at(thing, place):
        if isinstance(thing, tuple):
            return tuple(at(part, place + (index,)) for index, part in enumerate(thing))
        return numbers.get(place, thing)
    return {name: at(given[name], (name,)) for name in given}


def all_moves(given, by):
    """All inputs to which moves by a number lead."""
    places = integer_places(given)
    for row in itertools.product(*[range(number - by, number + by + 1) for number in places.values()]):
        yield moved_to(given, dict(zip(places, row)))


def dice(seed):
    return random.Random(seed)
