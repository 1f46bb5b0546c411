"""Bodies from clauses: the expressions of terms and places, tests for questions, and bodies with other locals.

held is a dict from names that have been read to the locals that hold what was read.
"""

from runlore.forms import names_bound
from runlore.terms import Built, Literal, Shifted, flat_terms, nested
from runlore.trees import all_trees
from runlore.values import Fault


def place_expression(place, held):
    """The part of a local that is at a place."""
    tree = ('name', held[place[0]])
    for index in place[1:]:
        tree = ('part', tree, index)
    return tree


def end_expression(end, held):
    """The expression of an end of a tie or sameness: a place, an atom, or None for the number 0."""
    if end is None:
        return ('int', 0)
    return ('atom', end) if isinstance(end, str) else place_expression(end, held)


def test_of(question, held):
    """The test that is true where the outcome of the question is."""
    word = question[0]
    first = end_expression(question[1], held)
    if word == 'kind':
        return ('is', question[2], first)
    if word == 'sized':
        return ('sized', first, question[2])
    second = end_expression(question[2], held)
    return ('most', first, -question[3], second) if word == 'tie' else ('alike', first, second)


def leaf_expression(result, held):
    """The expression that returns a term or fault."""
    if isinstance(result, Fault):
        return ('fail', result.word)
    done = []
    for term in flat_terms(result)[::-1]:
        if isinstance(term, Built):
            first = len(done) - len(term.parts)
            parts = tuple(done[first:][::-1])
            del done[first:]
            done.append(('tuple', parts))
        else:
            done.append(single_expression(term, held))
    return done[0]


def single_expression(term, held):
    """The expression of a term that is not built."""
    if isinstance(term, Literal):
        return ('atom', term.value) if isinstance(term.value, str) else ('int', term.value)
    tree = place_expression(term.place, held)
    return ('plus', tree, term.by) if isinstance(term, Shifted) and term.by != 0 else tree


def locals_in(body):
    """The names that the trees of a body bind."""
    return [name for tree in all_trees(body) for name in names_bound(tree)]


def renamed(body, names):
    """A body whose locals have other names; names is a dict from the old ones to the new ones."""
    rows = []
    todo = [body]
    while todo:
        one = todo.pop()
        if isinstance(one, tuple):
            rows.append((len(one), None))
            todo.extend(items_renamed(one, names)[::-1])
        else:
            rows.append((None, one))
    return nested(rows, False)


def items_renamed(items, names):
    """The items of a tree or of a tuple of trees; those that are names of locals are renamed."""
    found = list(items)
    if items and items[0] in ('name', 'let', 'each', 'pick', 'fold'):
        found[1] = names[items[1]]
    if items and items[0] == 'fold':
        found[3] = names[items[3]]
    return found
