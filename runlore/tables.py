"""Tables: all clauses of a rule that have inputs in a box."""

from runlore.errors import TooMany
from runlore.known import kinds_in, known_with, nothing_known
from runlore.notes import word_of
from runlore.termviews import ended_result, next_question, take_note, term_run, term_run_copy
from runlore.watcher import clause_of


def table(sheet, cell, box, *, region=None, most=400):
    """All clauses of a cell's rule that have an input in the box and the region, in the order of their tree."""
    start = term_run(sheet, cell)
    limits = nothing_known() if region is None else box.narrowed(region).known
    found = []
    todo = [(start, limits)] if limits.conflict is None else []
    while todo:
        run, limits = todo.pop()
        question = next_question(run)
        if question is not None:
            todo.extend(branches_of(run, question, limits, box)[::-1])
        elif len(found) == most:
            raise TooMany(most)
        else:
            found.append(clause_of(run.view, ended_result(run)))
    return tuple(found)


def branches_of(run, question, limits, box):
    """Pairs of a run that goes on from here and what limits its inputs, for each outcome that some of them have.

    Limits are what is known of the inputs in the box; they decide no glance.
    """
    branches = []
    for note, inner in open_notes(question, limits, box):
        branch = term_run_copy(run)
        take_note(branch.view, note)
        branches.append((branch, inner))
    return branches


def open_notes(question, limits, box):
    """Pairs of a note and the limits with it, for each outcome of a question that some inputs have."""
    outcomes = (True, False)
    if question[0] == 'size':
        kinds = kinds_in(limits.sets, question[1])
        outcomes = [k for k in range(box.size + 1) if k in kinds]
    rows = []
    for outcome in outcomes:
        note = (*question, outcome)
        inner = limited(limits, word_of(note), box)
        if inner.conflict is None:
            rows.append((note, inner))
    return rows


def limited(limits, word, box):
    """The limits with a word more, and with the kinds that the box has at its place."""
    if word[0] == 'kinds':
        return known_with(limits, (word, ('kinds', word[1], box.kinds(word[1]))))
    return known_with(limits, (word,))


def uncovered(sheet, cell, clauses, box, *, most=400):
    """The least input of the first clause of the table that is not among these, or None."""
    results = {}
    for clause in clauses:
        results[clause.notes] = results.get(clause.notes, ()) + (clause.result,)
    for clause in table(sheet, cell, box, most=most):
        if clause.result not in results.get(clause.notes, ()):
            return box.narrowed(clause.region).least
    return None


def witnesses(clauses, box):
    """The least input in the box of each clause, None where it has none."""
    return tuple([box.narrowed(clause.region).least for clause in clauses])
