"""Steps: the trees of a body, written out in the order in which a run does them.

A run goes through the steps with a stack of what expressions returned and tests
found. So a run needs no recursion, and can be stopped before any step. Each step is
a tuple of its word, the path of its tree, and what it needs. A jump tells how many
steps further (or back) to go on. A scope is a dict from names to the slots in which
a run holds them: the path of the name where it is bound, or a parameter's name.

A writer gives the rows of one tree: its steps, ('inner', tree, path, scope) for the
trees inside, and ('mark', mark) for where jumps lead; steps that jump end with a mark.
"""

JUMPS = ('branch', 'jump', 'turn', 'decide')


def body_steps(body, parameters):
    """The steps of the body of a cell or definition."""
    steps = []
    marks = {}
    todo = [('inner', body, (), {name: name for name in parameters})]
    while todo:
        row = todo.pop()
        if row[0] == 'inner':
            _, tree, path, scope = row
            writer = WRITERS[tree[0]]
            todo.extend(writer(tree, path, scope)[::-1])
        elif row[0] == 'mark':
            marks[row[1]] = len(steps)
        else:
            steps.append(row)
    return [aimed(step, at, marks) for at, step in enumerate(steps)]


def aimed(step, at, marks):
    """A step in which the mark, if it jumps, is the way to it."""
    if step[0] in JUMPS:
        return (*step[:-1], marks[step[-1]] - at)
    return step


def inner_rows(tree, path, scope, indexes):
    """The rows of some trees directly inside."""
    return [('inner', tree[index], path + (index,), scope) for index in indexes]


def listed_rows(trees, path, scope):
    """The rows of trees that stand in a tuple at this path."""
    return inner_rows(trees, path, scope, list(range(len(trees))))


def bound(scope, name, slot):
    """The scope inside of a binder."""
    inner = {other: scope[other] for other in scope}
    inner[name] = slot
    return inner


def write_literal(tree, path, scope):
    return [(tree[0], path, tree[1])]


def write_name(tree, path, scope):
    return [('load', path, scope[tree[1]])]


def write_with_number(tree, path, scope):
    return inner_rows(tree, path, scope, (1,)) + [(tree[0], path, tree[2])]


def write_tuple(tree, path, scope):
    return listed_rows(tree[1], path + (1,), scope) + [('tuple', path, len(tree[1]))]


def write_pair(tree, path, scope):
    return inner_rows(tree, path, scope, (1, 2)) + [(tree[0], path)]


def write_single(tree, path, scope):
    return inner_rows(tree, path, scope, (1,)) + [(tree[0], path)]


def write_call(tree, path, scope):
    return listed_rows(tree[2], path + (2,), scope) + [('call', path, tree[1], len(tree[2]))]


def write_let(tree, path, scope):
    slot = path + (1,)
    inner = bound(scope, tree[1], slot)
    return inner_rows(tree, path, scope, (2,)) + [('store', path, slot)] + inner_rows(tree, path, inner, (3,))


def write_if(tree, path, scope):
    other, end = (path, 'other'), (path, 'end')
    yes = [('branch', path, other)] + inner_rows(tree, path, scope, (2,)) + [('jump', path, end)]
    no = [('mark', other)] + inner_rows(tree, path, scope, (3,)) + [('mark', end)]
    return inner_rows(tree, path, scope, (1,)) + yes + no


def loop_rows(path, slot, before, inside, last):
    """A loop that holds each part in the slot, does the rows inside, and ends with one more step.

    The rows before stand between the loop step, which takes what is run over off the stack, and the turns.
    """
    turn, end = (path, 'turn'), (path, 'end')
    head = [('loop', path)] + before + [('mark', turn), ('turn', path, slot, end)]
    return head + inside + [('jump', path, turn), ('mark', end), last]


def write_each(tree, path, scope):
    slot = path + (1,)
    inside = inner_rows(tree, path, bound(scope, tree[1], slot), (3,)) + [('collect', path)]
    return inner_rows(tree, path, scope, (2,)) + loop_rows(path, slot, [], inside, ('gather', path))


def write_pick(tree, path, scope):
    slot = path + (1,)
    inside = inner_rows(tree, path, bound(scope, tree[1], slot), (3,)) + [('sift', path)]
    return inner_rows(tree, path, scope, (2,)) + loop_rows(path, slot, [], inside, ('gather', path))


def write_fold(tree, path, scope):
    held = path + (1,)
    slot = path + (3,)
    inner = bound(bound(scope, tree[1], held), tree[3], slot)
    keep = [('store', path, held)]
    inside = inner_rows(tree, path, inner, (5,)) + keep
    # What is held at first lies below what is run over.
    return inner_rows(tree, path, scope, (2, 4)) + loop_rows(path, slot, keep, inside, ('leave', path, held))


def write_is(tree, path, scope):
    return inner_rows(tree, path, scope, (2,)) + [('is', path, tree[1])]


def write_most(tree, path, scope):
    return inner_rows(tree, path, scope, (1, 3)) + [('most', path, tree[2])]


def write_deciding(tree, path, scope):
    """`both` ends at a first test that is false, `either` at one that is true."""
    end = (path, 'end')
    decided = [('decide', path, tree[0] == 'either', end)]
    return inner_rows(tree, path, scope, (1,)) + decided + inner_rows(tree, path, scope, (2,)) + [('mark', end)]


WRITERS = {
    'int': write_literal,
    'atom': write_literal,
    'name': write_name,
    'plus': write_with_number,
    'tuple': write_tuple,
    'part': write_with_number,
    'join': write_pair,
    'read': write_literal,
    'reach': write_single,
    'call': write_call,
    'let': write_let,
    'if': write_if,
    'each': write_each,
    'pick': write_pick,
    'fold': write_fold,
    'fail': write_literal,
    'is': write_is,
    'sized': write_with_number,
    'most': write_most,
    'alike': write_pair,
    'not': write_single,
    'both': write_deciding,
    'either': write_deciding,
}
