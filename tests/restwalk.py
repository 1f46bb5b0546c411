"""Rest bodies, gone along for given inputs: their shape, and whether each test is open."""

from runlore.kindsets import Kinds
from runlore.regions import Region
from runlore.values import Fault


class NotRest(Exception):
    """A part of a body that clauses do not make: the rest of the body is the cell's own."""


def place_of(tree, held):
    """The place of a local or of a part of one."""
    if tree[0] == 'part':
        return place_of(tree[1], held) + (tree[2],)
    if tree[0] != 'name':
        raise NotRest(tree)
    return (held[tree[1]],)


def end_of(tree, held):
    if tree == ('int', 0):
        return None
    return tree[1] if tree[0] == 'atom' else place_of(tree, held)


def words_of(test, held):
    """The words for the outcomes True and False of a test."""
    if test[0] == 'is':
        place, kinds = place_of(test[2], held), Kinds.of(test[1])
        return ('kinds', place, kinds), ('kinds', place, Kinds.present() - kinds)
    if test[0] == 'sized':
        place, kinds = place_of(test[1], held), Kinds.sized(test[2])
        return ('kinds', place, kinds), ('kinds', place, Kinds.of('tuple') - kinds)
    if test[0] == 'most':
        x, y = end_of(test[1], held), end_of(test[3], held)
        return ('tie', x, y, -test[2]), ('tie', y, x, test[2] - 1)
    if test[0] != 'alike':
        raise NotRest(test)
    x, y = end_of(test[1], held), end_of(test[2], held)
    return ('alike', x, y, True), ('alike', x, y, False)


def gone_along(body, region, given):
    """The reads on the way of inputs, and the leaf there; every test that is met must be open.

    Raises NotRest where there is something else than lets of reads, tests and a leaf.
    """
    held, reads = {}, []
    while body[0] in ('let', 'if'):
        if body[0] == 'let':
            _, local, (word, name), inner = body
            assert word == 'read'
            held[local] = name
            reads.append(name)
            if isinstance(given[name], Fault):
                return reads, None
            region = region.with_word(('kinds', (name,), Kinds.present()))
            body = inner
        else:
            regions = [region.with_word(word) for word in words_of(body[1], held)]
            assert all(regions), ('closed', body[1])
            assert body[2] != body[3], ('equal branches', body)
            at = 0 if given in regions[0] else 1
            assert given in regions[at]
            region, body = regions[at], body[2 + at]
    if body[0] == 'read':
        # A read of what has faults only is a leaf.
        assert isinstance(given[body[1]], Fault)
        return reads + [body[1]], None
    return reads, body
