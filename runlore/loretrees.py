"""Trees of clauses: their nodes are questions, their edges outcomes, their leaves clauses.

A tree is None (no clause), a clause, or a node. Trees never change: learning and
forgetting make new ones, which share what they can.
"""

from runlore.clauses import Clause
from runlore.errors import NoNote
from runlore.questions import in_order, outcome_at, question_of


class Node:
    """A question, and a dict from its outcomes to trees, none of them empty."""

    def __init__(self, question, edges):
        self.question = question
        self.edges = edges


def nodes_along(tree, notes):
    """The nodes that notes go through, and the tree where they end: None if they leave the tree.

    Raises NoNote for the first note that asks another question, or stands where a clause ends.
    """
    nodes = []
    for at, note in enumerate(notes):
        if tree is None:
            break
        if isinstance(tree, Clause) or tree.question != question_of(note):
            raise NoNote(at)
        nodes.append(tree)
        tree = tree.edges.get(note[-1])
    return nodes, tree


def has_clause(tree, clause):
    """Whether the clause is in the tree."""
    try:
        _, found = nodes_along(tree, clause.notes)
    except NoNote:
        return False
    return isinstance(found, Clause) and found == clause


def tree_with(tree, clause):
    """The tree with a clause more, which is not there."""
    notes = clause.notes
    nodes, found = nodes_along(tree, notes)
    if found is not None:
        raise NoNote(len(notes))
    built = clause
    for at in range(len(notes) - 1, -1, -1):
        edges = {}
        if at < len(nodes):
            edges = {outcome: nodes[at].edges[outcome] for outcome in nodes[at].edges}
        edges[notes[at][-1]] = built
        built = Node(question_of(notes[at]), edges)
    return built


def tree_without(tree, clause):
    """The tree without a clause, which is there."""
    notes = clause.notes
    nodes, _ = nodes_along(tree, notes)
    built = None
    for at in range(len(notes) - 1, -1, -1):
        edges = {outcome: nodes[at].edges[outcome] for outcome in nodes[at].edges}
        if built is None:
            del edges[notes[at][-1]]
        else:
            edges[notes[at][-1]] = built
        built = Node(nodes[at].question, edges) if edges else None
    return built


def tree_of(clauses):
    """The tree of clauses of one rule, without two equal ones."""
    tree = None
    for clause in clauses:
        tree = tree_with(tree, clause)
    return tree


def clauses_below(tree):
    """The clauses in the tree, in its order."""
    found = []
    todo = [tree]
    while todo:
        one = todo.pop()
        if isinstance(one, Clause):
            found.append(one)
        elif one is not None:
            outcomes = in_order(one.question, list(one.edges))
            todo.extend([one.edges[outcome] for outcome in outcomes[::-1]])
    return found


def walk_down(tree, inputs):
    """The notes that inputs meet, and the clause or None where they leave the tree."""
    notes = []
    while isinstance(tree, Node):
        outcome = outcome_at(inputs, tree.question)
        notes.append((*tree.question, outcome))
        tree = tree.edges.get(outcome)
    return tuple(notes), tree
