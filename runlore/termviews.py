"""What runs on terms see: places of inputs, and what is known of them so far."""

from runlore.kindsets import Kinds
from runlore.known import kinds_in, known_with, nothing_known
from runlore.likes import is_apart, is_same
from runlore.notes import word_of
from runlore.runs import run_to_end
from runlore.runstates import Made, run_copy, started
from runlore.termforms import atom_form, kind_of_term
from runlore.terms import Built, Literal, Shifted, Whole
from runlore.ties import bound_of


class Undecided(Exception):
    """A run needs the outcome of a question."""

    def __init__(self, question):
        self.question = question


class TermView:
    """Notes, what they tell, and which names have been read; the names are those that can be reached.

    A run holds terms. Built ones are what other runs made, if they are read.
    """

    def __init__(self, names):
        self.names = names
        self.known = nothing_known()
        self.notes = ()
        self.read = {}

    def reachable(self):
        return list(self.names)

    def literal(self, value):
        return Literal(value)

    def told(self, name):
        if name not in self.read:
            raise Undecided(('read', name))
        return Whole((name,)) if self.read[name] else None

    def is_kind(self, thing, word):
        if isinstance(thing, Built):
            return word == 'tuple'
        if not isinstance(thing, Whole):
            return kind_of_term(thing) == word
        kinds = kinds_in(self.known.sets, thing.place)
        wanted = Kinds.of(word)
        if kinds.within(wanted):
            return True
        if kinds & wanted:
            raise Undecided(('kind', thing.place, word))
        return False

    def count_of(self, thing):
        if isinstance(thing, Built):
            return len(thing.parts)
        size = kinds_in(self.known.sets, thing.place).size
        if size is None:
            raise Undecided(('size', thing.place))
        return size

    def is_sized(self, thing, k):
        if isinstance(thing, Built):
            return len(thing.parts) == k
        kinds = kinds_in(self.known.sets, thing.place)
        if kinds.size == k:
            return True
        if k in kinds:
            raise Undecided(('sized', thing.place, k))
        return False

    def part_of(self, thing, k):
        if isinstance(thing, Built):
            return thing.parts[k]
        return Whole(thing.place + (k,))

    def moved(self, thing, k):
        x, more = end_of(thing)
        return Literal(more + k) if x is None else Shifted(x, more + k)

    def is_most(self, one, c, other):
        x, more = end_of(one)
        y, less = end_of(other)
        bound = less - more - c
        most = bound_of(self.known.rows, x, y)
        if most is not None and most <= bound:
            return True
        back = bound_of(self.known.rows, y, x)
        if back is None or back >= -bound:
            raise Undecided(('tie', x, y, bound))
        return False

    def is_alike(self, one, other):
        x, y = atom_form(one), atom_form(other)
        if isinstance(x, str):
            x, y = y, x
        if is_same(self.known.likes, x, y):
            return True
        if not is_apart(self.known.likes, x, y):
            raise Undecided(('alike', x, y))
        return False


def end_of(term):
    """The place of an integer, or None for a literal, and what is added to it."""
    if isinstance(term, Literal):
        return None, term.value
    return (term.place, 0) if isinstance(term, Whole) else (term.place, term.by)


def term_run(sheet, cell):
    """A run of the body of a cell on terms, before its first step."""
    return started(sheet.book, sheet.body(cell), cell, TermView(sheet.names))


def term_run_copy(run):
    """A run that goes on by itself from here."""
    view = TermView(run.view.names)
    view.known = run.view.known
    view.notes = run.view.notes
    view.read = {name: run.view.read[name] for name in run.view.read}
    return run_copy(run, view)


def next_question(run):
    """Goes on up to the next undecided glance; returns its question, or None if the run has ended."""
    try:
        run_to_end(run)
    except Undecided as e:
        return e.question
    return None


def take_note(view, note):
    """Notes a question with its outcome."""
    view.known = known_with(view.known, (word_of(note),))
    view.notes = (*view.notes, note)
    if note[0] == 'read':
        view.read[note[1]] = note[2]


def ended_result(run):
    """The term or fault with which a run has ended."""
    return told_term(run.stack[-1]) if run.fault is None else run.fault


def told_term(thing):
    """The term of what a run has; what it made nests at most 30 deep."""
    if not isinstance(thing, Made):
        return thing
    parts = []
    for part in thing.parts:
        parts.append(told_term(part))
    return Built(parts)
