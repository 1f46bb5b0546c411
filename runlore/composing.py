"""Composed clauses: what a cell returns, told by the inputs of its sheet."""

from runlore.courses import course_result, followed, whole_inputs
from runlore.errors import TooBig
from runlore.sheets import check_asked
from runlore.values import Fault
from runlore.watcher import clause_of


def composed(sheet, cell, given, *, most=4096):
    """The clause of the run of a cell and of all cells that it asks, about the inputs of the sheet."""
    check_asked(sheet, cell, given)
    course = followed(sheet, cell, whole_inputs(sheet, given))
    result = course_result(course)
    if not isinstance(result, Fault) and result.weight > most:
        raise TooBig(most)
    return clause_of(course.view, result)
