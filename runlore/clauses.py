"""Clauses: what runs noted, and what they then returned."""

from runlore.errors import NoInput, NoNote, NoWord
from runlore.notes import first_unread, word_of
from runlore.regions import Region
from runlore.values import Fault


class Clause:
    """Notes, and the term or fault that inputs with these notes give."""

    def __init__(self, notes, result):
        self.notes = tuple(notes)
        self.result = result
        self.region = region_of(self.notes)
        self.reads = tuple([note[1:] for note in self.notes if note[0] == 'read'])

    def __contains__(self, inputs):
        return inputs in self.region

    def __call__(self, inputs):
        if inputs not in self.region:
            raise NoInput()
        if isinstance(self.result, Fault):
            return self.result
        return self.result(inputs)

    def __eq__(self, other):
        return isinstance(other, Clause) and self.notes == other.notes and self.result == other.result


def region_of(notes):
    """The region of all words of the notes."""
    wrong = first_unread(notes)
    right = notes if wrong is None else notes[:wrong]
    try:
        region = Region([word_of(note) for note in right])
    except NoWord as e:
        raise NoNote(e.at) from None
    if wrong is not None:
        raise NoNote(wrong)
    return region
