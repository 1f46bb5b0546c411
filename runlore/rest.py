"""Rest rules: bodies that do the same as the body of a cell for what is known ahead."""

from runlore.clauses import Clause
from runlore.errors import TooBig
from runlore.kindsets import Kinds
from runlore.known import known_with
from runlore.likes import next_atom
from runlore.loretrees import tree_of
from runlore.notes import word_of
from runlore.questions import in_order
from runlore.restbodies import leaf_expression, locals_in, renamed, test_of
from runlore.tables import table
from runlore.trees import count

MOST_TREES = 400


class Own:
    """The body of the cell itself, and the last name that a local of the new one has got."""

    def __init__(self, tree):
        self.tree = tree
        self.last = ''


class Branch:
    """A tree of clauses from which a part of the body is built; None for the body of the cell itself.

    known is what is known of the inputs that come there, held the locals that hold what was read.
    """

    def __init__(self, tree, known, held):
        self.tree = tree
        self.known = known
        self.held = held


def rest(sheet, cell, region, box, *, most=400):
    """A body that does the same as that of the cell at all inputs in the region."""
    clauses = table(sheet, cell, box, region=region, most=most)
    own = Own(sheet.body(cell))
    if not clauses:
        return limited_body(own, [('whole', own.tree)])
    return limited_body(own, listed_items(own, Branch(tree_of(clauses), region.known, {})))


def listed_items(own, first):
    """The items of the body, each before those inside it.

    A let ('let', local, name) stands before what is in it, a test ('test', test) before two
    branches. ('leaf', result, held), ('own',) and ('whole', expression) have nothing inside.
    """
    items = []
    todo = [first]
    while todo:
        one = todo.pop()
        if not isinstance(one, Branch):
            items.append(one)
        elif one.tree is None:
            items.append(('own',))
        elif isinstance(one.tree, Clause):
            items.append(('leaf', one.tree.result, one.held))
        else:
            todo.extend(what_is_inside(own, one)[::-1])
    return items


def what_is_inside(own, branch):
    """The items and branches of which a branch at a question consists."""
    question = branch.tree.question
    if question[0] == 'read':
        return inside_read(own, branch, question[1])
    if question[0] == 'size':
        return inside_sizes(branch)
    found = [outcome_branch(branch, outcome) for outcome in (True, False)]
    found = [other for other in found if other is not None]
    return [('test', test_of(question, branch.held)), *found] if len(found) == 2 else found


def outcome_branch(branch, outcome):
    """The branch of an outcome, or None if no inputs have it that come there."""
    known = known_with(branch.known, (word_of((*branch.tree.question, outcome)),))
    if known.conflict is not None:
        return None
    return Branch(branch.tree.edges.get(outcome), known, branch.held)


def inside_read(own, branch, name):
    told = outcome_branch(branch, True)
    if told is None:
        # To read what has a fault is the fault that the cell returns there.
        return [('whole', ('read', name))]
    local = fresh_name(own)
    told.held = {other: branch.held[other] for other in branch.held}
    told.held[name] = local
    return [('let', local, name), told]


def inside_sizes(branch):
    """One test after another; behind them the body of the cell itself, if there are inputs of other sizes."""
    question = branch.tree.question
    found = []
    others = Kinds.of('tuple')
    for k in in_order(question, list(branch.tree.edges)):
        others = others - Kinds.sized(k)
        found.extend([('test', test_of(('sized', question[1], k), branch.held)), outcome_branch(branch, k)])
    known = known_with(branch.known, (('kinds', question[1], others),))
    if known.conflict is None:
        return [*found, Branch(None, known, branch.held)]
    return [*found[:-2], found[-1]]


def fresh_name(own):
    own.last = next_atom(own.last)
    return own.last


def limited_body(own, items):
    """The body of which these are the items; it must not have too many trees."""
    done = []
    for item in items[::-1]:
        body = body_of(own, item, done)
        # What a body consists of never has more trees than the body.
        if count(body) > MOST_TREES:
            raise TooBig(MOST_TREES)
        done.append(body)
    return done[0]


def body_of(own, item, done):
    """The expression of an item; what is inside it is taken off what is done."""
    if item[0] == 'whole':
        return item[1]
    if item[0] == 'own':
        return renamed(own.tree, {name: fresh_name(own) for name in locals_in(own.tree)})
    if item[0] == 'leaf':
        return leaf_expression(item[1], item[2])
    if item[0] == 'let':
        return ('let', item[1], ('read', item[2]), done.pop())
    yes = done.pop()
    no = done.pop()
    return yes if yes == no else ('if', item[1], yes, no)
