"""Comparing rules as functions of what they read."""

from runlore.clauses import Clause
from runlore.loretrees import tree_of
from runlore.notes import word_of
from runlore.questions import in_order
from runlore.regions import Region
from runlore.tables import limited, table
from runlore.values import Fault


def same(sheet, cell, other, other_cell, box, *, most=400):
    """Both tables, if two rules agree at all inputs in the box, else inputs at which they do not."""
    # That a cell is lacking counts before that a table is too long.
    sheet.body(cell)
    other.body(other_cell)
    one = table(sheet, cell, box, most=most)
    two = table(other, other_cell, box, most=most)
    parted = first_parting(one, two, box)
    return ('same', one, two) if parted is None else ('parted', *parted)


def first_parting(one, two, box):
    """Inputs in the box at which two tables do not agree, and the clauses of both that have them; or None."""
    tree = tree_of(two)
    for first in one:
        for second, limits in meeting(tree, box.narrowed(first.region).known, box):
            inputs = parting(first.result, second.result, limits)
            if inputs is not None:
                return inputs, first, second
    return None


def meeting(tree, limits, box):
    """Pairs of a clause of the tree and the limits with it, for all clauses that have inputs within them."""
    found = []
    todo = [(tree, limits)]
    while todo:
        one, limits = todo.pop()
        if isinstance(one, Clause):
            found.append((one, limits))
            continue
        rows = []
        for outcome in in_order(one.question, list(one.edges)):
            inner = limited(limits, word_of((*one.question, outcome)), box)
            if inner.conflict is None:
                rows.append((one.edges[outcome], inner))
        todo.extend(rows[::-1])
    return found


def parting(one, other, limits):
    """Some inputs within the limits at which two results differ, or None."""
    region = Region(limits)
    if isinstance(one, Fault) or isinstance(other, Fault):
        return None if one == other else region.least
    # Of a place of which no note speaks, the first kinds are taken, which every box has everywhere.
    return region.distinguish(one, other)
