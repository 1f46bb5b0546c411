"""Answers spoilt in one thing, at each place."""

from runlore.clauses import Clause
from runlore.codes import Code
from runlore.errors import NoNote
from runlore.terms import Built, Literal, Shifted, Term, Whole
from runlore.values import Fault

OTHERS = (None, 5, True, 'no', 'QQ', (), (1,), [], {}, {'x': 1}, 2.5, Fault('bad'), Term(), Literal(1), Clause((), Literal(1)), object(), Code(()))


def spoilt(thing):
    """Things that differ in one thing from this one; some of them are no answers at all."""
    if isinstance(thing, bool):
        return [not thing, int(thing), None]
    if isinstance(thing, int):
        return [thing + 1, thing - 1, -thing - 7, str(thing), None, (thing,)] + ([bool(thing)] if thing in (0, 1) else [])
    if isinstance(thing, str):
        return ['q' if thing != 'q' else 'r', thing + 'x', None, 1, (thing,)]
    if thing is None:
        return [0, False, (), 'x']
    if isinstance(thing, tuple):
        return spoilt_tuples(thing)
    if isinstance(thing, dict):
        changed = [{**thing, name: other} for name in thing for other in spoilt(thing[name])]
        fewer = [{other: thing[other] for other in thing if other != name} for name in thing]
        return changed + fewer + [{**thing, 5: 1}, {**thing, 'Q': 1}, list(thing.items())]
    if isinstance(thing, Fault):
        return [Fault(other) for other in spoilt(thing.word)] + [thing.word, Literal(1), None]
    if isinstance(thing, Clause):
        return spoilt_clauses(thing) + [thing.notes, thing.result]
    if isinstance(thing, Code):
        return [Code(rows) for rows in spoilt(thing.rows)] + [thing.rows]
    return spoilt_terms(thing)


def spoilt_tuples(thing):
    found = [(*thing[:at], other, *thing[at + 1:]) for at, one in enumerate(thing) for other in spoilt(one)]
    found += [(*thing[:at], *thing[at + 1:]) for at in range(len(thing))]
    found += [(*thing[:at], thing[at], *thing[at:]) for at in range(len(thing))]
    found += [(*thing[:at], thing[at + 1], thing[at], *thing[at + 2:]) for at in range(len(thing) - 1)]
    return [one for one in found if same_sort(one, thing) is False] + [list(thing), None]


def spoilt_clauses(clause):
    found = []
    for notes in spoilt(clause.notes):
        if isinstance(notes, tuple):
            try:
                found.append(Clause(notes, clause.result))
            except NoNote:
                pass
    return found + [Clause(clause.notes, result) for result in spoilt(clause.result) + [None, 5, Term(), Literal(())]
                    if same_sort(result, clause.result) is False]


def spoilt_terms(term):
    if isinstance(term, Literal):
        return [Literal(other) for other in spoilt(term.value)] + [term.value, Whole(('x',)), Fault('bad')]
    if isinstance(term, Whole):
        return [Whole(other) for other in spoilt(term.place) if isinstance(other, tuple)] + [Shifted(term.place, 0), Term()]
    if isinstance(term, Shifted):
        places = [Shifted(other, term.by) for other in spoilt(term.place) if isinstance(other, tuple)]
        return places + [Shifted(term.place, other) for other in spoilt(term.by)] + [Whole(term.place)]
    if isinstance(term, Built):
        rows = [row for row in spoilt(term.parts) if isinstance(row, tuple)]
        rows = [row for row in rows if all(hasattr(part, 'weight') for part in row) and have_order(row)]
        return [Built(row) for row in rows] + [Literal(1)]
    return [None]


def have_order(terms):
    """Whether all their places can be told from one another, as what is built of them wants it."""
    try:
        sorted(place for term in terms for place in term.places)
    except TypeError:
        return False
    return True


def same_sort(one, other):
    """Whether two things are equal, and have no booleans in the places of integers."""
    if isinstance(one, (tuple, list)) and type(one) is type(other):
        return len(one) == len(other) and all(same_sort(*pair) for pair in zip(one, other))
    if isinstance(one, Clause) and isinstance(other, Clause):
        return same_sort(one.notes, other.notes) and same_sort(one.result, other.result)
    if isinstance(one, Fault) and isinstance(other, Fault):
        return one.word == other.word
    if isinstance(one, Term) and type(one) is type(other):
        return all(same_sort(vars(one)[name], vars(other)[name]) for name in vars(one))
    return type(one) is type(other) and one == other
