"""Courses: the run of a cell, and of all cells that it asks, on terms of the inputs alone."""

from runlore.asking import Unasked, close_ring
from runlore.questions import outcome_at
from runlore.runstates import run_copy, started
from runlore.termviews import TermView, ended_result, next_question, take_note
from runlore.values import Fault


class CourseView(TermView):
    """What all runs of a course see: inputs, and the terms and faults that cells have returned."""

    def __init__(self, sheet):
        super().__init__(sheet.names)
        self.sheet = sheet
        self.found = {}

    def told(self, name):
        if name in self.sheet.inputs:
            return super().told(name)
        if name not in self.found:
            raise Unasked(name)
        thing = self.found[name]
        return None if isinstance(thing, Fault) else thing


class Course:
    """The runs of cells that wait for one another, the latest one last; all have the same view."""

    def __init__(self, cell, view, waiting):
        self.cell = cell
        self.view = view
        self.waiting = waiting


def started_course(sheet, cell):
    """A course before the first step of the cell."""
    course = Course(cell, CourseView(sheet), {})
    ask_cell(course, cell)
    return course


def course_copy(course):
    """A course that goes on by itself from here."""
    view = CourseView(course.view.sheet)
    view.known = course.view.known
    view.notes = course.view.notes
    view.read = {name: course.view.read[name] for name in course.view.read}
    view.found = {name: course.view.found[name] for name in course.view.found}
    return Course(course.cell, view, {name: run_copy(course.waiting[name], view) for name in course.waiting})


def ask_cell(course, cell):
    """Begins the run of a cell, unless it waits: then it waits for itself."""
    if cell in course.waiting:
        close_ring(course.view.found, course.waiting, cell)
    else:
        sheet = course.view.sheet
        course.waiting[cell] = started(sheet.book, sheet.body(cell), cell, course.view)


def course_question(course):
    """Goes on up to the next undecided glance; returns its question, or None if the course has ended."""
    while course.waiting:
        question = question_in_run(course, list(course.waiting)[-1])
        if question is not None:
            return question
    return None


def question_in_run(course, cell):
    """Goes on with the run of a cell; None if it has ended, or another cell must be run first."""
    run = course.waiting[cell]
    try:
        question = next_question(run)
    except Unasked as e:
        ask_cell(course, e.name)
        return None
    if question is None:
        course.view.found[cell] = ended_result(run)
        del course.waiting[cell]
    return question


def course_result(course):
    """The term or fault with which a course has ended, as no region has written it."""
    return course.view.found[course.cell]


def whole_inputs(sheet, given):
    """The inputs of a sheet; those that are not given have faults."""
    return {name: given[name] if name in given else Fault('read') for name in sheet.inputs}


def followed(sheet, cell, inputs):
    """The course at inputs, at its end."""
    course = started_course(sheet, cell)
    question = course_question(course)
    while question is not None:
        take_note(course.view, (*question, outcome_at(inputs, question)))
        question = course_question(course)
    return course


def next_tie(course, inputs):
    """Goes on as the inputs do, up to the next undecided tie; returns its question, or None at the end."""
    question = course_question(course)
    while question is not None and question[0] != 'tie':
        take_note(course.view, (*question, outcome_at(inputs, question)))
        question = course_question(course)
    return question
