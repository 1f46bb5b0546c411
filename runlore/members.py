"""Inputs of which something known is true: whether they are such, and the least ones."""

from runlore.kindsets import kind_in
from runlore.known import kinds_in, told_places
from runlore.likes import label_of, least_atom, unlike
from runlore.terms import nested
from runlore.values import Fault, is_integer


def thing_at(given, place):
    """What is at a place that is there."""
    thing = given[place[0]]
    for index in place[1:]:
        thing = thing[index]
    return thing


def number_at(given, end):
    return 0 if end is None else thing_at(given, end)


def atom_at(given, label):
    return label if isinstance(label, str) else thing_at(given, label)


def is_member(known, given):
    """Whether all that is known is true of the given values."""
    if known.conflict is not None:
        return False
    # In place order each place is looked at behind the tuples that it is inside of.
    for place in told_places(known):
        if place[0] not in given or kind_in(thing_at(given, place)) not in known.sets[place]:
            return False
    return meets_rows(known.rows, given) and meets_likes(known.likes, given)


def meets_rows(rows, given):
    for x in rows:
        for y in rows[x]:
            if number_at(given, x) - number_at(given, y) > rows[x][y]:
                return False
    return True


def meets_likes(likes, given):
    for place in likes.labels:
        if thing_at(given, place) != atom_at(given, likes.labels[place]):
            return False
    for one, other in likes.apart:
        if atom_at(given, one) == atom_at(given, other):
            return False
    return True


def least_member(known):
    """The least inputs of which all that is known is true; there are such."""
    names = {place[0]: True for place in told_places(known)}
    shapes = {name: shape_of(known.sets, name) for name in names}
    leaves = [leaf for name in shapes for leaf in shapes[name]]
    # The first integer in the order of values is the one next to 0.
    integers = near_integers(known.rows, {place: 0 for place, kind in leaves if kind == 'integer'})
    atoms = least_atoms(known.likes, [place for place, kind in leaves if kind == 'atom'])
    return {name: filled(shapes[name], integers, atoms) for name in shapes}


def shape_of(sets, name):
    """Pairs of a place and its least kind, in place order, for all places of the least value."""
    shape = []
    todo = [(name,)]
    while todo:
        place = todo.pop()
        kind = kinds_in(sets, place).least
        shape.append((place, kind))
        if is_integer(kind):
            todo.extend([place + (index,) for index in range(kind - 1, -1, -1)])
    return shape


def near_integers(rows, wanted):
    """An integer for each place, as near as can be to the one that is wanted there.

    They are chosen one after another; each choice leaves some for the later ones.
    """
    chosen = {None: 0}
    for x in wanted:
        highs = [rows[x][y] + chosen[y] for y in rows[x] if y in chosen] if x in rows else []
        lows = [chosen[y] - rows[y][x] for y in rows if x in rows[y] and y in chosen]
        chosen[x] = max([min([wanted[x], *highs]), *lows])
    return chosen


def least_atoms(likes, places):
    """The least atom for each place, one after another."""
    chosen = {}
    for place in places:
        label = label_of(likes, place)
        if isinstance(label, str):
            chosen[place] = label
        elif label in chosen:
            chosen[place] = chosen[label]
        else:
            others = unlike(likes, label)
            used = [other for other in others if isinstance(other, str)]
            used.extend([chosen[other] for other in others if other in chosen])
            chosen[place] = least_atom(used)
    return chosen


def filled(shape, integers, atoms):
    """The value or fault of a shape."""
    if shape[0][1] == 'fault':
        return Fault('read')
    rows = []
    for place, kind in shape:
        if kind == 'integer':
            rows.append((None, integers[place]))
        elif kind == 'atom':
            rows.append((None, atoms[place]))
        else:
            rows.append((kind, None))
    return nested(rows, False)
