"""Steps: the trees of a body, written out in the order in which a run does them.

A run goes through the steps with a stack of what expressions returned and tests
found. So a run needs no recursion, and can be stopped before any step. Each step is
a tuple of its word, the path of its tree, and what it needs. A jump tells how many
steps further (or back) to go on. A scope is a dict from names to the slots in which
a run holds them: the path of the name where it is bound, or a parameter's name.
"""


def body_steps(body, parameters):
    """The steps of the body of a cell or definition."""
    return steps_of(body, (), {name: name for name in parameters})


def steps_of(tree, path, scope):
    writer = WRITERS[tree[0]]
    return writer(tree, path, scope)


def inner_steps(tree, path, scope, indexes):
    """The steps of some trees directly inside, one after another."""
    steps = []
    for index in indexes:
        steps.extend(steps_of(tree[index], path + (index,), scope))
    return steps


def listed_steps(trees, path, scope):
    """The steps of trees that stand in a tuple at this path."""
    return inner_steps(trees, path, scope, list(range(len(trees))))


def bound(scope, name, slot):
    """The scope inside of a binder."""
    inner = {other: scope[other] for other in scope}
    inner[name] = slot
    return inner


def write_literal(tree, path, scope):
    return [(tree[0], path, tree[1])]


def write_name(tree, path, scope):
    return [('load', path, scope[tree[1]])]


def write_with_number(tree, path, scope):
    return inner_steps(tree, path, scope, (1,)) + [(tree[0], path, tree[2])]


def write_tuple(tree, path, scope):
    return listed_steps(tree[1], path + (1,), scope) + [('tuple', path, len(tree[1]))]


def write_pair(tree, path, scope):
    return inner_steps(tree, path, scope, (1, 2)) + [(tree[0], path)]


def write_single(tree, path, scope):
    return inner_steps(tree, path, scope, (1,)) + [(tree[0], path)]


def write_call(tree, path, scope):
    return listed_steps(tree[2], path + (2,), scope) + [('call', path, tree[1], len(tree[2]))]


def write_let(tree, path, scope):
    slot = path + (1,)
    inner = bound(scope, tree[1], slot)
    return inner_steps(tree, path, scope, (2,)) + [('store', path, slot)] + inner_steps(tree, path, inner, (3,))


def write_if(tree, path, scope):
    test = inner_steps(tree, path, scope, (1,))
    yes = inner_steps(tree, path, scope, (2,))
    no = inner_steps(tree, path, scope, (3,))
    return test + [('branch', path, len(yes) + 2)] + yes + [('jump', path, len(no) + 1)] + no


def loop_steps(path, slot, inside, end):
    """A loop that holds each part in the slot, does the steps inside, and ends with one more step."""
    turn = ('turn', path, slot, len(inside) + 2)
    return [('loop', path), turn] + inside + [('jump', path, -len(inside) - 1), end]


def write_each(tree, path, scope):
    slot = path + (1,)
    inside = inner_steps(tree, path, bound(scope, tree[1], slot), (3,)) + [('collect', path)]
    return inner_steps(tree, path, scope, (2,)) + loop_steps(path, slot, inside, ('gather', path))


def write_pick(tree, path, scope):
    slot = path + (1,)
    inside = inner_steps(tree, path, bound(scope, tree[1], slot), (3,)) + [('sift', path)]
    return inner_steps(tree, path, scope, (2,)) + loop_steps(path, slot, inside, ('gather', path))


def write_fold(tree, path, scope):
    held = path + (1,)
    slot = path + (3,)
    inner = bound(bound(scope, tree[1], held), tree[3], slot)
    keep = [('store', path, held)]
    inside = inner_steps(tree, path, inner, (5,)) + keep
    loop = loop_steps(path, slot, inside, ('leave', path, held))
    # The loop step takes what is run over off the stack, what is held at first lies below it.
    return inner_steps(tree, path, scope, (2, 4)) + loop[:1] + keep + loop[1:]


def write_is(tree, path, scope):
    return inner_steps(tree, path, scope, (2,)) + [('is', path, tree[1])]


def write_most(tree, path, scope):
    return inner_steps(tree, path, scope, (1, 3)) + [('most', path, tree[2])]


def write_deciding(tree, path, scope):
    """`both` ends at a first test that is false, `either` at one that is true."""
    second = inner_steps(tree, path, scope, (2,))
    decided = ('decide', path, tree[0] == 'either', len(second) + 1)
    return inner_steps(tree, path, scope, (1,)) + [decided] + second


WRITERS = {
    'int': write_literal,
    'atom': write_literal,
    'name': write_name,
    'plus': write_with_number,
    'tuple': write_tuple,
    'part': write_with_number,
    'join': write_pair,
    'read': write_literal,
    'reach': write_single,
    'call': write_call,
    'let': write_let,
    'if': write_if,
    'each': write_each,
    'pick': write_pick,
    'fold': write_fold,
    'fail': write_literal,
    'is': write_is,
    'sized': write_with_number,
    'most': write_most,
    'alike': write_pair,
    'not': write_single,
    'both': write_deciding,
    'either': write_deciding,
}
