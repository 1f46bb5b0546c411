"""Clauses: what runs noted, and what they then returned."""

from runlore.errors import NoInput, NoNote
from runlore.known import first_wrong, known_with, nothing_known
from runlore.notes import first_unread, word_of
from runlore.regions import Region
from runlore.values import Fault


class Told:
    """Notes, and what is known by all of them."""

    def __init__(self, notes, known):
        self.notes = notes
        self.known = known


class Clause:
    """Notes, and the term or fault that inputs with these notes give."""

    def __init__(self, notes, result):
        # Runs on terms, which know what they noted, give it along.
        told = notes if isinstance(notes, Told) else told_by(tuple(notes))
        self.notes = told.notes
        self.result = result
        self.region = Region(told.known)
        self.reads = tuple([note[1:] for note in self.notes if note[0] == 'read'])

    def __contains__(self, inputs):
        return inputs in self.region

    def __call__(self, inputs):
        if inputs not in self.region:
            raise NoInput()
        if isinstance(self.result, Fault):
            return self.result
        return self.result(inputs)

    def __eq__(self, other):
        return isinstance(other, Clause) and self.notes == other.notes and self.result == other.result


def told_by(notes):
    """What notes tell, if each is a note that those before it let stand there."""
    wrong = first_unread(notes)
    right = notes if wrong is None else notes[:wrong]
    words = [word_of(note) for note in right]
    ungrounded = first_wrong(words)
    if ungrounded is not None:
        raise NoNote(ungrounded)
    if wrong is not None:
        raise NoNote(wrong)
    return Told(notes, known_with(nothing_known(), words))
