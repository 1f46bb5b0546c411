"""Questions: notes without their last items, which are the outcomes."""

from runlore.errors import NoCell
from runlore.members import atom_at, number_at, thing_at
from runlore.values import Fault, kind_of


def question_of(note):
    return note[:-1]


def outcome_at(inputs, question):
    """The outcome of a question at inputs that have what it asks about."""
    word = question[0]
    if word == 'read':
        if question[1] not in inputs:
            raise NoCell(question[1])
        return not isinstance(inputs[question[1]], Fault)
    if word == 'kind':
        return kind_of(thing_at(inputs, question[1])) == question[2]
    if word == 'size':
        return len(thing_at(inputs, question[1]))
    if word == 'sized':
        return len(thing_at(inputs, question[1])) == question[2]
    if word == 'tie':
        return number_at(inputs, question[1]) - number_at(inputs, question[2]) <= question[3]
    return atom_at(inputs, question[1]) == atom_at(inputs, question[2])


def in_order(question, outcomes):
    """Outcomes of a question: sizes ascending, True before False."""
    if question[0] == 'size':
        return sorted(outcomes)
    return [outcome for outcome in (True, False) if outcome in outcomes]
