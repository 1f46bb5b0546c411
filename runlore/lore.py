"""Lore: clauses of one rule that have been learned."""

from runlore.loretrees import clauses_below, has_clause, tree_with, tree_without, walk_down


class Lore:
    """Clauses of one rule, kept as a tree of questions."""

    def __init__(self, clauses=()):
        self.tree = None
        for clause in clauses:
            self.learn(clause)

    def __len__(self):
        return len(clauses_below(self.tree))

    def __contains__(self, clause):
        return has_clause(self.tree, clause)

    def __eq__(self, other):
        return isinstance(other, Lore) and clauses_below(self.tree) == clauses_below(other.tree)

    def learn(self, clause):
        """Adds a clause; returns whether it was not there."""
        if has_clause(self.tree, clause):
            return False
        self.tree = tree_with(self.tree, clause)
        return True

    def walk(self, inputs):
        """The notes that inputs meet going down the tree, and the clause or None where they leave it."""
        return walk_down(self.tree, inputs)

    def forget(self, clause):
        """Removes a clause; returns whether it was there."""
        if not has_clause(self.tree, clause):
            return False
        self.tree = tree_without(self.tree, clause)
        return True

    def clauses(self):
        """The clauses in the order of the tree."""
        return clauses_below(self.tree)
