"""Desks: what an engine keeps of inputs, answers, clauses and deeds, apart from its sheet."""

from runlore.errors import NoNote
from runlore.loretrees import clauses_below, has_clause, nodes_along, tree_of, tree_with, tree_without
from runlore.watcher import walked


class Desk:
    """What an engine keeps.

    uses has keys (cell, notes) for all clauses in the trees, that of the longest unused one
    first. A deed is ('input', name, before) with what the input held before, or ('sheet',
    sheet, gone) with the sheet before and the pairs of a cell and a clause that it let go.
    """

    def __init__(self, held):
        self.held = held
        self.answered = {}
        self.trees = {}
        self.uses = {}
        self.deeds = []


def desk_copy(desk):
    """A desk that does not change with this one."""
    other = Desk({name: desk.held[name] for name in desk.held})
    other.answered = {cell: desk.answered[cell] for cell in desk.answered}
    other.trees = {cell: desk.trees[cell] for cell in desk.trees}
    other.uses = {key: True for key in desk.uses}
    other.deeds = list(desk.deeds)
    return other


def use_clause(desk, cell, clause):
    """The clause of the cell is now the last one that was used."""
    key = (cell, clause.notes)
    if key in desk.uses:
        del desk.uses[key]
    desk.uses[key] = True


def learn_clause(desk, cell, clause):
    """Adds a clause that is not there."""
    desk.trees[cell] = tree_with(desk.trees.get(cell), clause)
    use_clause(desk, cell, clause)


def drop_oldest(desk):
    """Removes the clause that was not used for longest; returns its cell and it, or None."""
    key = next(iter(desk.uses), None)
    if key is None:
        return None
    cell, notes = key
    del desk.uses[key]
    _, clause = nodes_along(desk.trees[cell], notes)
    desk.trees[cell] = tree_without(desk.trees[cell], clause)
    return (cell, clause)


def clause_again(sheet, cell, clause):
    """The equal clause that the rule of the cell has in this sheet, or None."""
    try:
        found = walked(sheet, cell, clause.notes)
    except NoNote:
        return None
    return found if found == clause else None


def look_again(desk, sheet, cells):
    """Keeps only those clauses of cells that these have in this sheet; returns pairs of a cell and one that goes."""
    gone = []
    for cell in cells:
        kept = []
        for clause in clauses_below(desk.trees.get(cell)):
            found = clause_again(sheet, cell, clause)
            if found is None:
                gone.append((cell, clause))
                del desk.uses[(cell, clause.notes)]
            else:
                kept.append(found)
        desk.trees[cell] = tree_of(kept)
    return gone


def bring_back(desk, gone):
    """Learns clauses once more that had to go."""
    for cell, clause in gone:
        if not has_clause(desk.trees.get(cell), clause):
            learn_clause(desk, cell, clause)
