"""The checker: whether answers of the package are right, without running a rule on values."""

from runlore.clauses import Clause
from runlore.codes import Code
from runlore.courses import course_question, course_result, started_course, whole_inputs
from runlore.equals import is_equal
from runlore.errors import NoNote
from runlore.known import nothing_known
from runlore.loretrees import clauses_below, tree_of
from runlore.marginchecks import is_margin, pieces_told
from runlore.margins import Line, moving_integer
from runlore.questions import question_of
from runlore.sameness import first_parting
from runlore.tables import branches_of
from runlore.terms import Built
from runlore.termviews import ended_result, next_question, take_note, term_run
from runlore.values import Fault, is_integer, is_name, is_value
from runlore.watcher import clause_of, walked
from runlore.wishchecks import holds_bars, is_met, is_moved


def holds_clause(sheet, cell, answer):
    """Whether it is the clause of a watching run of the cell."""
    if not isinstance(answer, Clause):
        return False
    try:
        right = walked(sheet, cell, answer.notes)
    except NoNote:
        return False
    return is_equal(right, answer)


def holds_table(sheet, cell, box, answer):
    """Whether it is the table of a cell's rule."""
    if not isinstance(answer, tuple) or not all([isinstance(clause, Clause) for clause in answer]):
        return False
    try:
        tree = tree_of(answer)
    except NoNote:
        return False
    return clauses_below(tree) == list(answer) and is_whole(sheet, cell, box, tree)


def is_whole(sheet, cell, box, tree):
    """Whether a tree has just the clauses of all runs at inputs in the box."""
    todo = [(tree, term_run(sheet, cell), nothing_known())]
    while todo:
        one, run, limits = todo.pop()
        question = next_question(run)
        if isinstance(one, Clause):
            if question is not None or not is_equal(clause_of(run.view, ended_result(run)), one):
                return False
        elif one is None or one.question != question:
            return False
        else:
            branches = branches_of(run, question, limits, box)
            if len(branches) != len(one.edges):
                return False
            todo.extend([(one.edges.get(branch.view.notes[-1][-1]), branch, inner) for branch, inner in branches])
    return True


def holds_same(sheet, cell, other, other_cell, box, answer):
    """Whether it tells rightly that two rules agree, or where they do not."""
    if not isinstance(answer, tuple) or len(answer) not in (3, 4):
        return False
    if len(answer) == 3:
        word, one, two = answer
        right = holds_table(sheet, cell, box, one) and holds_table(other, other_cell, box, two)
        return is_equal('same', word) and right and first_parting(one, two, box) is None
    word, inputs, first, second = answer
    right = holds_clause(sheet, cell, first) and holds_clause(other, other_cell, second)
    return is_equal('parted', word) and right and are_inputs(inputs, box) and is_parted(inputs, first, second)


def are_inputs(thing, box):
    """Whether it is inputs in the box."""
    if not isinstance(thing, dict) or not all([is_name(name) for name in thing]):
        return False
    values = [thing[name] for name in thing if not is_fault(thing[name])]
    return all([is_value(value) and box.fits(value) for value in values])


def is_fault(thing):
    return isinstance(thing, Fault) and is_name(thing.word)


def is_parted(inputs, first, second):
    """Whether both clauses have the inputs, and return different things for them."""
    return inputs in first and inputs in second and first(inputs) != second(inputs)


def holds_composed(sheet, cell, answer):
    """Whether it is a composed clause of the cell."""
    if not isinstance(answer, Clause):
        return False
    course = course_along(sheet, cell, answer.notes)
    if course is None:
        return False
    result = course_result(course)
    # A result does not get lighter where it is written, but it may be far too heavy to be written.
    if isinstance(result, Built) and not (isinstance(answer.result, Built) and result.weight <= answer.result.weight):
        return False
    return is_equal(clause_of(course.view, result), answer)


def course_along(sheet, cell, notes):
    """The course with these notes at its end, or None if no course has them."""
    course = started_course(sheet, cell)
    question = course_question(course)
    for note in notes:
        if question is None or question_of(note) != question:
            return None
        take_note(course.view, note)
        if course.view.known.conflict is not None:
            return None
        question = course_question(course)
    return course if question is None else None


def holds_margin(sheet, cell, given, place, answer):
    """Whether it is the margin around the integer at a place, with its pieces."""
    if not isinstance(answer, tuple) or len(answer) != 3 or not isinstance(answer[2], tuple):
        return False
    low, high, rows = answer
    if not all([end is None or is_integer(end) for end in (low, high)]):
        return False
    line = Line(sheet, cell, given, place)
    number = moving_integer(given, place)
    pieces = pieces_told(line, number, rows)
    if pieces is None or not all([holds_composed(sheet, cell, piece.clause) for piece in pieces]):
        return False
    return is_margin(line, number, low, high, pieces)


def holds_wish(sheet, cell, given, goal, answer):
    """Whether it tells rightly the least move that meets the goal, or that there is none."""
    if not isinstance(answer, tuple) or len(answer) not in (2, 4):
        return False
    inputs = whole_inputs(sheet, given)
    if len(answer) == 2:
        return is_equal('none', answer[0]) and holds_bars(sheet, cell, inputs, goal.words, None, answer[1])
    word, by, moved, bars = answer
    if not is_equal('move', word) or not is_integer(by) or by < 0 or not is_moved(given, moved, by):
        return False
    if not is_met(sheet, cell, moved, goal):
        return False
    return bars is None if by == 0 else holds_bars(sheet, cell, inputs, goal.words, by - 1, bars)


def holds_code(clauses, answer):
    """Whether it is the code of the clauses."""
    return isinstance(answer, Code) and is_equal(Code.of(clauses).rows, answer.rows)
