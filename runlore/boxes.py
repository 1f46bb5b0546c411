"""Boxes: all values up to a size and a depth."""

from runlore.kindsets import Kinds
from runlore.values import Fault


class Box:
    """The values of this depth whose tuples have at most so many parts, and all faults."""

    def __init__(self, size, depth):
        self._size = size
        self.depth = depth

    @property
    def size(self):
        """The greatest number of parts."""
        return self._size

    def fits(self, value):
        """Whether a value or fault is in the box."""
        layer = [value]
        for _ in range(self.depth):
            layer = [one for one in layer if isinstance(one, tuple)]
            if any([len(one) > self._size for one in layer]):
                return False
            layer = [part for one in layer for part in one]
        return not any([isinstance(one, tuple) for one in layer])

    def kinds(self, place):
        """The kinds that can be at a place in the box."""
        kinds = Kinds.of('integer') | Kinds.of('atom')
        if len(place) <= self.depth:
            for k in range(self._size + 1):
                kinds = kinds | Kinds.sized(k)
        return kinds | Kinds.of('fault') if len(place) == 1 else kinds

    def narrowed(self, region):
        """The region, with the kinds of the box at each place in its normal form."""
        if not region:
            return region
        narrow = region
        for word in region.words:
            # Places of ties and samenesses have integers or atoms alone, and are told as kinds before.
            if word[0] == 'kinds':
                narrow = narrow.with_word(('kinds', word[1], self.kinds(word[1])))
        return narrow

    def all_inputs(self, names, integers, atoms, *, faults=False):
        """All inputs in the box with these names, integers and atoms, one by one."""
        leaves = [*integers, *atoms]
        many = len(names)
        for things in rows_in(leaves, self._size, self.depth, faults, many):
            yield {name: thing for name, thing in zip(names, things)}


def things_in(leaves, size, depth, faults):
    """All values of these integers and atoms up to a size and a depth, then a fault if faults are wanted."""
    yield from leaves
    if depth > 0:
        below = depth - 1
        for many in range(size + 1):
            yield from rows_in(leaves, size, below, False, many)
    if faults:
        yield Fault('read')


def rows_in(leaves, size, depth, faults, many):
    """All tuples of so many of these things; the last one changes fastest."""
    if many == 0:
        yield ()
    else:
        others = many - 1
        for first in things_in(leaves, size, depth, faults):
            for rest in rows_in(leaves, size, depth, faults, others):
                yield (first, *rest)
