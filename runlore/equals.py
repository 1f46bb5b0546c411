"""Equality as the checker has it: booleans are equal to no integers, and anything may be compared."""

from runlore.clauses import Clause
from runlore.terms import Built, Literal, Shifted, Whole
from runlore.values import Fault, is_integer


def is_equal(right, thing):
    """Whether anything is equal to what is right: made of tuples, clauses, terms, faults and plain values."""
    todo = [(right, thing)]
    while todo:
        one, other = todo.pop()
        inner = inner_pairs(one, other)
        if inner is None:
            return False
        todo.extend(inner)
    return True


def inner_pairs(one, other):
    """Pairs of what must be equal inside of two things, None if they differ themselves."""
    if isinstance(one, tuple):
        return list(zip(one, other)) if isinstance(other, tuple) and len(one) == len(other) else None
    if isinstance(one, Clause):
        return [(one.notes, other.notes), (one.result, other.result)] if isinstance(other, Clause) else None
    if isinstance(one, Fault):
        return [(one.word, other.word)] if isinstance(other, Fault) else None
    if isinstance(one, Literal):
        return [(one.value, other.value)] if isinstance(other, Literal) else None
    if isinstance(one, Whole):
        return [(one.place, other.place)] if isinstance(other, Whole) else None
    if isinstance(one, Shifted):
        return [(one.place, other.place), (one.by, other.by)] if isinstance(other, Shifted) else None
    if isinstance(one, Built):
        return [(one.parts, other.parts)] if isinstance(other, Built) else None
    return [] if is_same_plain(one, other) else None


def is_same_plain(one, other):
    """Whether something is equal to an integer, a boolean, a string or None."""
    if one is None:
        return other is None
    if isinstance(one, bool):
        return isinstance(other, bool) and one == other
    if is_integer(one):
        return is_integer(other) and one == other
    return isinstance(other, str) and one == other
