"""Preimages: the inputs at which a rule returns what is wanted."""

from runlore.tables import table


def preimage(sheet, cell, goal, box, *, most=400):
    """Regions, one for each clause of the table that has such inputs in the box, which together have all of them."""
    found = []
    for clause in table(sheet, cell, box, most=most):
        region = goal.substituted('answer', clause.result, clause.region)
        if box.narrowed(region):
            found.append(region)
    return tuple(found)
