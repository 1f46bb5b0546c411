"""Notes: what a run noted of its reads and glances, and the words that this says."""

from runlore.kindsets import Kinds
from runlore.places import is_place
from runlore.values import is_integer, is_name
from runlore.wordforms import is_end, is_pair


def is_note(thing):
    """Whether it has the form of a note."""
    if not isinstance(thing, tuple) or not thing:
        return False
    if thing[0] == 'size':
        return len(thing) == 3 and is_place(thing[1]) and is_count(thing[2])
    if not isinstance(thing[-1], bool):
        return False
    if thing[0] == 'read':
        return len(thing) == 3 and is_name(thing[1])
    if thing[0] == 'kind':
        return len(thing) == 4 and is_place(thing[1]) and thing[2] in ('integer', 'atom', 'tuple')
    if thing[0] == 'sized':
        return len(thing) == 4 and is_place(thing[1]) and is_count(thing[2])
    if thing[0] == 'tie':
        return len(thing) == 5 and is_end(thing[1]) and is_end(thing[2]) and is_integer(thing[3])
    return thing[0] == 'alike' and len(thing) == 4 and is_pair(thing[1], thing[2])


def is_count(thing):
    return is_integer(thing) and thing >= 0


def places_of(note):
    """The places of which a note speaks; a read speaks of a name only."""
    return [end for end in note[1:3] if is_place(end)]


def word_of(note):
    """The word that just those inputs meet that have the outcome of the note."""
    if note[0] == 'read':
        return ('kinds', (note[1],), Kinds.present() if note[2] else Kinds.of('fault'))
    if note[0] == 'kind':
        kinds = Kinds.of(note[2])
        return ('kinds', note[1], kinds if note[3] else Kinds.present() - kinds)
    if note[0] == 'size':
        return ('kinds', note[1], Kinds.sized(note[2]))
    if note[0] == 'sized':
        kinds = Kinds.sized(note[2])
        return ('kinds', note[1], kinds if note[3] else Kinds.of('tuple') - kinds)
    if note[0] == 'alike':
        return note
    _, x, y, c, yes = note
    return ('tie', x, y, c) if yes else ('tie', y, x, -c - 1)


def first_unread(notes):
    """The index of the first item that is no note, or has a place of a name not read before, or None."""
    read = {}
    for at, note in enumerate(notes):
        if not is_note(note) or not all([place[0] in read for place in places_of(note)]):
            return at
        if note[0] == 'read' and note[2]:
            read[note[1]] = True
    return None
