"""Asks: an engine goes down the trees of cells, and runs the bodies of cells that these do not tell."""

from runlore.asking import close_ring
from runlore.courses import whole_inputs
from runlore.desks import learn_clause, use_clause
from runlore.loretrees import Node
from runlore.questions import outcome_at
from runlore.runstates import Run
from runlore.termviews import ended_result, next_question, take_note, term_run
from runlore.values import Fault
from runlore.watcher import clause_of


class Walk:
    """Where one stands in the tree of a cell."""

    def __init__(self, tree):
        self.tree = tree


class Asks:
    """What is known while cells are asked: all inputs, and the answers of cells.

    waiting has the walk or run of each cell that has been asked and has no answer yet, the latest last.
    """

    def __init__(self, sheet, desk, log):
        self.sheet = sheet
        self.desk = desk
        self.log = log
        self.facts = whole_inputs(sheet, desk.held)
        self.waiting = {}


def answer_of(sheet, desk, log, cell):
    """What a cell returns; answers are kept, clauses learned and runs logged."""
    asks = Asks(sheet, desk, log)
    for name in desk.answered:
        asks.facts[name] = desk.answered[name]
    wanted = None if cell in asks.facts else cell
    while wanted is not None:
        if wanted in asks.waiting:
            end_ring(asks, wanted)
        else:
            begin(asks, wanted)
        wanted = next_asked(asks)
    return asks.facts[cell]


def begin(asks, cell):
    """A cell is asked: one goes down its tree, or runs its body if there is none."""
    tree = asks.desk.trees.get(cell)
    asks.waiting[cell] = term_run(asks.sheet, cell) if tree is None else Walk(tree)


def end_ring(asks, first):
    """The cells that wait, from this one on, wait for themselves."""
    order = list(asks.waiting)
    latest = order[order.index(first):][::-1]
    asks.log.extend([(cell, None) for cell in latest if isinstance(asks.waiting[cell], Run)])
    for cell in close_ring(asks.facts, asks.waiting, first):
        asks.desk.answered[cell] = asks.facts[cell]


def next_asked(asks):
    """Goes on with what waits, the latest first; returns the cell that must be asked first, or None."""
    while asks.waiting:
        cell = list(asks.waiting)[-1]
        task = asks.waiting[cell]
        wanted = go_down(asks, cell, task) if isinstance(task, Walk) else run_on(asks, cell, task)
        if wanted is not None:
            return wanted
    return None


def go_down(asks, cell, walk):
    """Goes down a tree; returns a cell that must be asked first, or None."""
    while isinstance(walk.tree, Node):
        question = walk.tree.question
        if is_open(asks, question):
            return question[1]
        walk.tree = walk.tree.edges.get(outcome_at(asks.facts, question))
    if walk.tree is None:
        asks.waiting[cell] = term_run(asks.sheet, cell)
    else:
        use_clause(asks.desk, cell, walk.tree)
        settle_cell(asks, cell, walk.tree)
    return None


def run_on(asks, cell, run):
    """Goes on with a run; returns a cell that must be asked first, or None."""
    question = next_question(run)
    while question is not None:
        if is_open(asks, question):
            return question[1]
        take_note(run.view, (*question, outcome_at(asks.facts, question)))
        question = next_question(run)
    clause = clause_of(run.view, ended_result(run))
    learn_clause(asks.desk, cell, clause)
    asks.log.append((cell, clause))
    settle_cell(asks, cell, clause)
    return None


def is_open(asks, question):
    """Whether it is about a cell without an answer."""
    return question[0] == 'read' and question[1] not in asks.facts


def settle_cell(asks, cell, clause):
    """The cell has its answer, by a clause that has the inputs."""
    result = clause.result
    answer = result if isinstance(result, Fault) else result(asks.facts)
    asks.facts[cell] = answer
    asks.desk.answered[cell] = answer
    del asks.waiting[cell]
