"""Watching runs: rules are run on terms, and what they notice is noted."""

from runlore.clauses import Clause, Told
from runlore.errors import NoNote
from runlore.notes import is_note
from runlore.questions import outcome_at, question_of
from runlore.termforms import written_term
from runlore.termviews import ended_result, next_question, take_note, term_run
from runlore.values import Fault


def watched(sheet, cell, given):
    """The clause of the run of a cell's body, where names have the given values or faults."""
    run = term_run(sheet, cell)
    question = next_question(run)
    while question is not None:
        take_note(run.view, (*question, outcome_at(given, question)))
        question = next_question(run)
    return clause_of(run.view, ended_result(run))


def walked(sheet, cell, notes):
    """The clause of the run of a cell's body in which glances have the outcomes of the notes."""
    run = term_run(sheet, cell)
    question = next_question(run)
    at = 0
    while question is not None:
        if at == len(notes) or not is_note(notes[at]) or question_of(notes[at]) != question:
            raise NoNote(at)
        take_note(run.view, notes[at])
        if run.view.known.conflict is not None:
            raise NoNote(at)
        question = next_question(run)
        at = at + 1
    if at < len(notes):
        raise NoNote(at)
    return clause_of(run.view, ended_result(run))


def clause_of(view, result):
    """The clause of what a view has noted, with the result as it is written there."""
    if not isinstance(result, Fault):
        result = written_term(view.known, result)
    return Clause(Told(view.notes, view.known), result)
