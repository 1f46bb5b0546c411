"""Certificates of wishes, checked along composed clauses: each path of ties is gone by some inputs."""

from manycells import filled, integer_places, moved_to
from runlore.composing import composed
from runlore.courses import course_result, followed
from runlore.kindsets import Kinds
from runlore.regions import Region
from runlore.termforms import moved_words
from runlore.values import Fault
from spoiling import same_sort


def shape_words(given):
    """Words for the sizes and integers of inputs."""
    words, todo = [], [((name,), given[name]) for name in sorted(given)]
    while todo:
        place, thing = todo.pop(0)
        if isinstance(thing, tuple):
            words.append(('kinds', place, Kinds.sized(len(thing))))
            todo += [(place + (at,), part) for at, part in enumerate(thing)]
        elif isinstance(thing, int):
            words.append(('kinds', place, Kinds.of('integer')))
    return words


def tie_of(note):
    """The tie of an outcome."""
    _, x, y, c, yes = note
    return (x, y, c) if yes else (y, x, -c - 1)


def inputs_on(given, path):
    """Inputs of the shape of these that meet the outcomes of a path."""
    region = Region(shape_words(given) + [('tie', *tie_of(note)) for note in path])
    least, places = integer_places(region.least), integer_places(given)
    return moved_to(given, {place: least[place] for place in least if place in places})


def is_certificate(sheet, cell, given, goal, by, bars, path=()):
    """Whether it is a certificate that no move by this number (None: none at all) meets the goal."""
    inputs = inputs_on(given, path)
    clause = composed(sheet, cell, inputs)
    ties = tuple(note for note in clause.notes if note[0] == 'tie')
    assert ties[:len(path)] == path
    if not isinstance(bars, tuple):
        return False
    if len(bars) == 6:
        if len(ties) == len(path) or not same_sort(bars[:4], ties[len(path)][:4]):
            return False
        return all(is_certificate(sheet, cell, given, goal, by, bars[at], (*path, (*bars[:4], yes))) for at, yes in ((4, True), (5, False)))
    result, words = None, None
    if len(ties) == len(path):
        result = course_result(followed(sheet, cell, filled(inputs, sheet.inputs)))
        if not isinstance(result, Fault):
            words = unmet(goal, {'answer': result(filled(inputs, sheet.inputs))})
    if len(bars) != 2:
        return False
    if bars[0] == 'cycle':
        return is_ring(bars[1]) and all(triple in allowed(given, goal, by, path, result, words) for triple in bars[1])
    if bars[0] == 'fault':
        return isinstance(result, Fault) and same_sort(bars[1], result.word)
    return bars[0] == 'unlike' and bool(words) and same_sort(bars[1], words[0][1])


def unmet(goal, answer):
    """The words of a goal, ties left out, from the first one on that an answer does not meet."""
    words = [word for word in goal.words if word[0] != 'tie']
    while words and answer in Region(words):
        return []
    many = next(at for at in range(len(words) + 1) if at == len(words) or answer not in Region(words[:at + 1]))
    return words[many:]


def allowed(given, goal, by, path, result, words):
    """The ties that a ring may have."""
    found = [tie_of(note) for note in path]
    if by is not None:
        for place, number in integer_places(given).items():
            found += [(place, None, number + by), (None, place, by - number)]
    if words == []:
        found += [word[1:] for word in moved_words([word for word in goal.words if word[0] == 'tie'], 'answer', result)]
    return found


def is_ring(thing):
    if not isinstance(thing, tuple) or not thing:
        return False
    for triple in thing:
        if not isinstance(triple, tuple) or len(triple) != 3 or type(triple[2]) is not int:
            return False
        if not all(end is None or (isinstance(end, tuple) and all(type(index) is int for index in end[1:])) for end in triple[:2]):
            return False
    return sum(c for _, _, c in thing) < 0 and all(one[1] == other[0] for one, other in zip(thing, thing[1:] + thing[:1]))
