"""Wishes: the least move of integers after which a cell returns what is wanted."""

from runlore.courses import course_copy, course_result, next_tie, started_course, whole_inputs
from runlore.errors import TooMany
from runlore.goals import led_ties, unmet_place
from runlore.known import joined_rows
from runlore.moves import least_move, moved_inputs, ring_against
from runlore.notes import word_of
from runlore.sheets import check_asked
from runlore.termviews import take_note
from runlore.values import Fault


class Way:
    """Where courses stand behind outcomes of ties: before one more, or at their end.

    ties are those of the outcomes, as triples; rows hold all that follows from them.
    """

    def __init__(self, ties):
        self.ties = ties
        self.rows = {}
        self.question = None
        self.branches = ()
        self.result = None


class Wanted:
    """The normal form of a goal, and the inputs from which moves lead on."""

    def __init__(self, goal_words, inputs):
        self.goal_words = goal_words
        self.inputs = inputs


def wish(sheet, cell, given, goal, *, most=400):
    """The least move that meets the goal, inputs to which it leads, and why no lesser one does."""
    check_asked(sheet, cell, given)
    wanted = Wanted(goal.words, whole_inputs(sheet, given))
    first = Way([])
    ends = all_ends(sheet, cell, first, wanted.inputs, most)
    by, rows = least_reached(wanted, ends)
    if rows is None:
        return ('none', bars_of(wanted, first, None))
    return ('move', by, moved_inputs(rows, given, by), bars_of(wanted, first, by - 1) if by > 0 else None)


def least_reached(wanted, ends):
    """The least number by which a move leads to an end that meets the goal, and what it must meet; or None twice."""
    least = None
    found = None
    for way in ends:
        rows = goal_rows(wanted, way)
        if rows is not None:
            by = least_move(rows, wanted.inputs)
            if least is None or by < least:
                least, found = by, rows
    return least, found


def all_ends(sheet, cell, first, inputs, most):
    """The ends of all ways from the first one on, which are told how they go on."""
    ends = []
    todo = [(first, started_course(sheet, cell))]
    while todo:
        way, course = todo.pop()
        way.question = next_tie(course, inputs)
        way.rows = course.view.known.rows
        if way.question is not None:
            branches = [branch_of(way, course, outcome) for outcome in (True, False)]
            way.branches = tuple([branch for branch, _ in branches])
            todo.extend(branches[::-1])
        elif len(ends) == most:
            raise TooMany(most)
        else:
            way.result = course_result(course)
            ends.append(way)
    return ends


def branch_of(way, course, outcome):
    """The way and the course behind an outcome of the next tie."""
    note = (*way.question, outcome)
    other = course_copy(course)
    take_note(other.view, note)
    return Way([*way.ties, word_of(note)[1:]]), other


def unmet_at(wanted, way):
    """The place of the first word of the goal, ties left out, that the term at an end does not meet."""
    return unmet_place(wanted.goal_words, way.result(wanted.inputs))


def goal_rows(wanted, way):
    """What integers must meet to go this way to its end and then meet the goal, or None if they cannot."""
    if isinstance(way.result, Fault) or unmet_at(wanted, way) is not None:
        return None
    return joined_rows(way.rows, led_ties(wanted.goal_words, way.result))


def bars_of(wanted, first, by):
    """The certificate that no move by this number meets the goal; no move at all for None."""
    rows = []
    todo = [first]
    while todo:
        way = todo.pop()
        if by is not None and least_move(way.rows, wanted.inputs) > by:
            rows.append(('cycle', ring_against(way.ties, wanted.inputs, by)))
        elif way.question is not None:
            rows.append(way.question)
            todo.extend(way.branches[::-1])
        else:
            rows.append(bars_at_end(wanted, way, by))
    return joined_bars(rows)


def bars_at_end(wanted, way, by):
    if isinstance(way.result, Fault):
        return ('fault', way.result.word)
    place = unmet_at(wanted, way)
    if place is not None:
        return ('unlike', place)
    return ('cycle', ring_against(way.ties + led_ties(wanted.goal_words, way.result), wanted.inputs, by))


def joined_bars(rows):
    """The certificate of which each tie stands before what is behind its two outcomes."""
    done = []
    for row in rows[::-1]:
        if row[0] == 'tie':
            yes = done.pop()
            done.append((*row, yes, done.pop()))
        else:
            done.append(row)
    return done[0]
