"""Asking: cells are run, each where another one first reads it, or found to wait for themselves."""

from runlore.runner import PlainView, finished
from runlore.runs import run_to_end
from runlore.runstates import started
from runlore.values import Fault


class Unasked(Exception):
    """A run reads a cell that has no answer yet."""

    def __init__(self, name):
        self.name = name


class Asking:
    """The answers and the rings that have been found for given inputs."""

    def __init__(self, sheet, given):
        self.sheet = sheet
        self.told_inputs = given
        self.found = {}
        self.rings = []


class AskingView(PlainView):
    """What the run of a cell sees: values of inputs, and answers of other cells."""

    def __init__(self, asking):
        self.asking = asking

    def reachable(self):
        return list(self.asking.sheet.names)

    def told(self, name):
        asking = self.asking
        if name in asking.sheet.inputs:
            thing = asking.told_inputs.get(name)
        elif name in asking.found:
            thing = asking.found[name]
        else:
            raise Unasked(name)
        return None if isinstance(thing, Fault) else thing


def settle(asking, cell):
    """Finds the answer of a cell, and those of all that it waits for."""
    waiting = {}
    wanted = None if cell in asking.found else cell
    while wanted is not None:
        if wanted in waiting:
            asking.rings.append(close_ring(asking.found, waiting, wanted))
        else:
            body = asking.sheet.body(wanted)
            waiting[wanted] = started(asking.sheet.book, body, wanted, AskingView(asking))
        wanted = next_wanted(asking, waiting)


def close_ring(found, waiting, first):
    """All cells that wait, from this one on, wait for themselves: they get their answers. Returns the ring."""
    order = list(waiting)
    ring = tuple(order[order.index(first):])
    for name in ring:
        found[name] = Fault('knot', name)
        del waiting[name]
    return ring


def next_wanted(asking, waiting):
    """Goes on with the runs that wait, the latest first; returns the cell for which they have to wait, or None."""
    while waiting:
        name = list(waiting)[-1]
        run = waiting[name]
        try:
            run_to_end(run)
        except Unasked as e:
            return e.name
        asking.found[name] = finished(run.stack[-1]) if run.fault is None else run.fault
        del waiting[name]
    return None
