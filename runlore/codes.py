"""Code: clauses compiled to rows, and machines that run them."""

from runlore.clauses import Clause
from runlore.lore import Lore
from runlore.loretrees import Node
from runlore.questions import in_order, outcome_at
from runlore.values import Fault

ENDS = ('tell', 'fail', 'unknown')


class Code:
    """Rows, of which the first one begins and the last one tells that nothing is known."""

    def __init__(self, rows):
        self.rows = rows

    @classmethod
    def of(cls, clauses):
        """The code of a lore, or of clauses of one rule."""
        lore = clauses if isinstance(clauses, Lore) else Lore(clauses)
        return Code(tree_rows(lore.tree))

    def __len__(self):
        return len(self.rows)

    def __eq__(self, other):
        return isinstance(other, Code) and self.rows == other.rows


class Machine:
    """Code that is being run: the number of the row that comes, and the names asked so far."""

    def __init__(self, code, ask):
        self.at = 0
        self.asked = ()
        self.code = code
        self.asker = ask
        self.facts = {}

    def step(self):
        """Does one row; returns whether there was one to do."""
        row = self.code.rows[self.at]
        if row[0] in ENDS:
            return False
        if row[0] == 'ask':
            self.ask_name(row[1])
        self.at = row_behind(row, self.facts, len(self.code) - 1)
        return True

    def ask_name(self, name):
        asker = self.asker
        facts = {other: self.facts[other] for other in self.facts}
        facts[name] = asker(name)
        self.facts = facts
        self.asked = (*self.asked, name)

    def run(self):
        """Does all rows; returns what the last one tells."""
        while self.step():
            pass
        row = self.code.rows[self.at]
        if row[0] == 'tell':
            term = row[1]
            return ('told', term(self.facts))
        return ('fault', row[1].word) if row[0] == 'fail' else row


def tree_rows(tree):
    """The rows of a tree of clauses."""
    order = []
    todo = [(tree, None, None)] if tree is not None else []
    while todo:
        one, above, outcome = todo.pop()
        at = len(order)
        order.append((one, {}))
        if above is not None:
            order[above][1][outcome] = at
        if isinstance(one, Node):
            others = in_order(one.question, list(one.edges))
            todo.extend([(one.edges[other], at, other) for other in others[::-1]])
    rows = [row_of(one, targets, len(order)) for one, targets in order]
    return (*rows, ('unknown',))


def row_of(tree, targets, last):
    """The row of a clause or node; targets has the numbers of the rows of its outcomes."""
    if isinstance(tree, Clause):
        return ('fail', tree.result) if isinstance(tree.result, Fault) else ('tell', tree.result)
    question = tree.question
    if question[0] == 'size':
        return (*question, tuple([(k, targets[k]) for k in sorted(list(targets))]))
    word = 'ask' if question[0] == 'read' else question[0]
    return (word, *question[1:], targets.get(True, last), targets.get(False, last))


def row_behind(row, facts, last):
    """The number of the row that comes behind a row with a question."""
    if row[0] == 'size':
        outcome = outcome_at(facts, row[:2])
        for k, at in row[2]:
            if k == outcome:
                return at
        return last
    question = ('read', row[1]) if row[0] == 'ask' else row[:-2]
    return row[-2] if outcome_at(facts, question) else row[-1]
