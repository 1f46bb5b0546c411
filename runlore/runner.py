"""Plain runs: a body, run on values."""

from runlore.errors import NoCell
from runlore.runs import run_to_end
from runlore.runstates import Made, started
from runlore.values import Fault, kind_of


class PlainView:
    """What a plain run sees: the values themselves."""

    def __init__(self, given):
        self._given = given

    def reachable(self):
        return list(self._given)

    def literal(self, value):
        return value

    def told(self, name):
        if name not in self._given:
            raise NoCell(name)
        thing = self._given[name]
        return None if isinstance(thing, Fault) else thing

    def is_kind(self, thing, word):
        return kind_of(thing) == word

    def count_of(self, thing):
        return len(thing)

    def is_sized(self, thing, k):
        return len(thing) == k

    def part_of(self, thing, k):
        return thing[k]

    def moved(self, thing, k):
        return thing + k

    def is_most(self, one, c, other):
        return one + c <= other

    def is_alike(self, one, other):
        return one == other


def plain(book, body, given, *, rule=''):
    """What a body without parameters returns, where names have the given values or faults."""
    run = started(book, body, rule, PlainView(given))
    run_to_end(run)
    return finished(run.stack[-1]) if run.fault is None else run.fault


def finished(thing):
    """The value of what a run has; what it made nests at most 30 deep."""
    if not isinstance(thing, Made):
        return thing
    parts = []
    for part in thing.parts:
        parts.append(finished(part))
    return tuple(parts)
