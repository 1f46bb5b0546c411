"""Checks of wishes: whether inputs are moved, whether they meet a goal, and whether certificates hold."""

from runlore.courses import course_copy, course_result, followed, next_tie, started_course, whole_inputs
from runlore.equals import is_equal
from runlore.errors import NoPlace
from runlore.goals import led_ties, unmet_place
from runlore.notes import word_of
from runlore.places import value_at
from runlore.termviews import take_note
from runlore.values import Fault, is_integer
from runlore.wordforms import is_end


class Bars:
    """What a certificate must follow: inputs, the normal form of the goal, and the bound of moves or None."""

    def __init__(self, inputs, goal_words, by):
        self.inputs = inputs
        self.goal_words = goal_words
        self.by = by


def is_moved(given, thing, by):
    """Whether it is inputs to which a move by this number leads."""
    if not isinstance(thing, dict) or len(thing) != len(given) or not all([name in thing for name in given]):
        return False
    todo = [(given[name], thing[name]) for name in given]
    while todo:
        one, other = todo.pop()
        if is_integer(one):
            if not is_integer(other) or abs(one - other) > by:
                return False
        elif isinstance(one, tuple) and isinstance(other, tuple) and len(one) == len(other):
            todo.extend(list(zip(one, other)))
        elif isinstance(one, tuple) or not is_equal(one, other):
            return False
    return True


def is_met(sheet, cell, given, goal):
    """Whether the cell then returns what the goal wants."""
    inputs = whole_inputs(sheet, given)
    result = course_result(followed(sheet, cell, inputs))
    return not isinstance(result, Fault) and {'answer': result(inputs)} in goal


def holds_bars(sheet, cell, inputs, goal_words, by, thing):
    """Whether it is a certificate that no move by this number (None: no move at all) meets the goal."""
    bars = Bars(inputs, goal_words, by)
    todo = [(thing, started_course(sheet, cell), [])]
    while todo:
        one, course, ties = todo.pop()
        question = next_tie(course, inputs)
        if not isinstance(one, tuple) or len(one) not in (2, 6) or not isinstance(one[0], str):
            return False
        if len(one) == 2:
            if not holds_leaf(bars, one, None if question is not None else course_result(course), ties):
                return False
        elif question is None or not is_equal(question, one[:4]):
            return False
        else:
            todo.extend([behind(one, course, ties, outcome) for outcome in (True, False)])
    return True


def behind(one, course, ties, outcome):
    """The certificate, the course and the ties behind an outcome of the next tie."""
    note = (*one[:4], outcome)
    other = course_copy(course)
    take_note(other.view, note)
    return one[4] if outcome else one[5], other, [*ties, word_of(note)[1:]]


def holds_leaf(bars, one, result, ties):
    """Whether the end of a certificate holds, where the run has ended with this result, or (None) goes on."""
    if one[0] == 'cycle':
        return is_cycle(one[1]) and all([is_known_tie(bars, triple, result, ties) for triple in one[1]])
    if result is None:
        return False
    if isinstance(result, Fault):
        return one[0] == 'fault' and is_equal(result.word, one[1])
    place = unmet_place(bars.goal_words, result(bars.inputs))
    return one[0] == 'unlike' and place is not None and is_equal(place, one[1])


def is_cycle(thing):
    """Whether it is triples in a ring whose numbers add up to less than 0."""
    if not isinstance(thing, tuple) or not thing or not all([is_triple(triple) for triple in thing]):
        return False
    for triple, other in zip(thing, (*thing[1:], thing[0])):
        if triple[1] != other[0]:
            return False
    return sum([triple[2] for triple in thing]) < 0


def is_triple(thing):
    if not isinstance(thing, tuple) or len(thing) != 3:
        return False
    return is_end(thing[0]) and is_end(thing[1]) and is_integer(thing[2])


def is_known_tie(bars, triple, result, ties):
    """Whether a triple is a tie of an outcome, a bound of the move, or a tie of the goal at the end of the run."""
    if triple in ties or is_bound(bars, triple):
        return True
    if result is None or isinstance(result, Fault):
        return False
    if unmet_place(bars.goal_words, result(bars.inputs)) is not None:
        return False
    return triple in led_ties(bars.goal_words, result)


def is_bound(bars, triple):
    """Whether a triple is a bound of the move at a place with an integer."""
    x, y, c = triple
    if bars.by is None or (x is None) == (y is None):
        return False
    value = thing_there(bars.inputs, y if x is None else x)
    if not is_integer(value):
        return False
    return c == bars.by + (value if y is None else -value)


def thing_there(inputs, place):
    """The value at a place, or None."""
    try:
        return value_at(inputs, place)
    except NoPlace:
        return None
