"""Runs: bodies are run step by step, on whatever a view shows of inputs.

A view has these methods. What a run holds of inputs it gets from the view, and only
the view looks into it. A view may raise an error of its own in any of them: the run
then stands before the step as if it had not begun it.

    reachable()               the names that `reach` knows, in order
    literal(value)            an integer or atom of the body
    told(name)                what is read, or None for a fault or no value
    is_kind(thing, word)      whether it is an integer, atom or tuple
    count_of(thing)           the size of a tuple
    is_sized(thing, k)        whether a tuple has this size
    part_of(thing, k)         a part of a tuple
    moved(thing, k)           an integer plus another one
    is_most(one, c, other)    whether one + c <= other, for integers
    is_alike(one, other)      whether two atoms are the same
"""

from runlore.runstates import Frame, Loop, Made
from runlore.steps import body_steps
from runlore.values import Fault

MOST_WORK = 4096
MOST_NEST = 30
MOST_CALLS = 12


def run_to_end(run):
    """Does all steps; the run then has a fault, or its result alone on its stack."""
    while run.fault is None and (run.callers or run.frame.at < len(run.frame.steps)):
        advance(run)


def advance(run):
    """Does the next step of a run that has not ended.

    An action returns None to go on behind its step, a number of steps to go further
    or back, or the word of a fault.
    """
    frame = run.frame
    if frame.at == len(frame.steps):
        run.frame = run.callers.pop()
        return
    step = frame.steps[frame.at]
    action = ACTIONS[step[0]]
    told = action(run, step)
    if isinstance(told, str):
        run.fault = Fault(told, frame.rule, step[1])
    else:
        frame.at = frame.at + (1 if told is None else told)


def is_of_kind(run, thing, word):
    """The glance at a kind; at what the run has made it tells nothing new."""
    return word == 'tuple' if isinstance(thing, Made) else run.view.is_kind(thing, word)


def parts_of_tuple(run, thing):
    """The parts of a tuple, behind the glance at its size."""
    if isinstance(thing, Made):
        return thing.parts
    return tuple([run.view.part_of(thing, k) for k in range(run.view.count_of(thing))])


def added_work(run, more):
    """Counts work; returns 'long' if it is too much."""
    run.work = run.work + more
    return 'long' if run.work > MOST_WORK else None


def replace_top(run, many, thing):
    """Puts one thing in the place of the last ones on the stack."""
    del run.stack[len(run.stack) - many:]
    run.stack.append(thing)


def make(run, many, parts):
    """Makes a tuple in the place of the last things on the stack."""
    made = Made(parts)
    if made.nest > MOST_NEST:
        return 'long'
    replace_top(run, many, made)
    return added_work(run, made.weight)


def do_literal(run, step):
    run.stack.append(run.view.literal(step[2]))


def do_load(run, step):
    run.stack.append(run.frame.slots[step[2]])


def do_store(run, step):
    run.frame.slots[step[2]] = run.stack.pop()


def do_plus(run, step):
    if not is_of_kind(run, run.stack[-1], 'integer'):
        return 'kind'
    replace_top(run, 1, run.view.moved(run.stack[-1], step[2]))
    return None


def do_tuple(run, step):
    many = step[2]
    return make(run, many, tuple(run.stack[len(run.stack) - many:]))


def do_part(run, step):
    if not is_of_kind(run, run.stack[-1], 'tuple'):
        return 'kind'
    parts = parts_of_tuple(run, run.stack[-1])
    if step[2] >= len(parts):
        return 'part'
    replace_top(run, 1, parts[step[2]])
    return None


def do_join(run, step):
    one, other = run.stack[-2:]
    if not is_of_kind(run, one, 'tuple') or not is_of_kind(run, other, 'tuple'):
        return 'kind'
    return make(run, 2, parts_of_tuple(run, one) + parts_of_tuple(run, other))


def do_read(run, step):
    thing = run.view.told(step[2])
    if thing is None:
        return 'read'
    run.stack.append(thing)
    return None


def do_reach(run, step):
    view = run.view
    if not is_of_kind(run, run.stack[-1], 'atom'):
        return 'kind'
    for name in view.reachable():
        if view.is_alike(run.stack[-1], view.literal(name)):
            thing = view.told(name)
            if thing is None:
                return 'read'
            replace_top(run, 1, thing)
            return None
    return 'name'


def definition_of(run, name):
    """The parameters and steps of a definition, which are written once for each run."""
    if name not in run.called:
        _, parameters, _, body = run.book[name]
        run.called[name] = (parameters, body_steps(body, parameters))
    return run.called[name]


def do_call(run, step):
    if len(run.callers) >= MOST_CALLS:
        return 'long'
    parameters, steps = definition_of(run, step[2])
    first = len(run.stack) - step[3]
    frame = Frame(step[2], steps)
    for slot, thing in zip(parameters, run.stack[first:]):
        frame.slots[slot] = thing
    del run.stack[first:]
    run.callers.append(run.frame)
    run.frame = frame
    return added_work(run, 1)


def do_branch(run, step):
    return None if run.stack.pop() else step[2]


def do_jump(run, step):
    return step[2]


def do_decide(run, step):
    if run.stack[-1] == step[2]:
        return step[3]
    run.stack.pop()
    return None


def do_loop(run, step):
    if not is_of_kind(run, run.stack[-1], 'tuple'):
        return 'kind'
    run.frame.loops.append(Loop(parts_of_tuple(run, run.stack[-1])))
    run.stack.pop()
    return None


def do_turn(run, step):
    loop = run.frame.loops[-1]
    if loop.begun == len(loop.parts):
        return step[3]
    run.frame.slots[step[2]] = loop.parts[loop.begun]
    loop.begun = loop.begun + 1
    return added_work(run, 1)


def do_collect(run, step):
    run.frame.loops[-1].found.append(run.stack.pop())


def do_sift(run, step):
    loop = run.frame.loops[-1]
    if run.stack.pop():
        loop.found.append(loop.parts[loop.begun - 1])


def do_gather(run, step):
    return make(run, 0, tuple(run.frame.loops.pop().found))


def do_leave(run, step):
    run.frame.loops.pop()
    run.stack.append(run.frame.slots[step[2]])


def do_fail(run, step):
    return step[2]


def do_is(run, step):
    replace_top(run, 1, is_of_kind(run, run.stack[-1], step[2]))


def do_sized(run, step):
    thing = run.stack[-1]
    if not is_of_kind(run, thing, 'tuple'):
        return 'kind'
    if isinstance(thing, Made):
        replace_top(run, 1, len(thing.parts) == step[2])
    else:
        replace_top(run, 1, run.view.is_sized(thing, step[2]))
    return None


def do_most(run, step):
    one, other = run.stack[-2:]
    if not is_of_kind(run, one, 'integer') or not is_of_kind(run, other, 'integer'):
        return 'kind'
    replace_top(run, 2, run.view.is_most(one, step[2], other))
    return None


def do_alike(run, step):
    one, other = run.stack[-2:]
    if not is_of_kind(run, one, 'atom') or not is_of_kind(run, other, 'atom'):
        return 'kind'
    replace_top(run, 2, run.view.is_alike(one, other))
    return None


def do_not(run, step):
    run.stack.append(not run.stack.pop())


ACTIONS = {
    'int': do_literal,
    'atom': do_literal,
    'load': do_load,
    'store': do_store,
    'plus': do_plus,
    'tuple': do_tuple,
    'part': do_part,
    'join': do_join,
    'read': do_read,
    'reach': do_reach,
    'call': do_call,
    'branch': do_branch,
    'jump': do_jump,
    'decide': do_decide,
    'loop': do_loop,
    'turn': do_turn,
    'collect': do_collect,
    'gather': do_gather,
    'sift': do_sift,
    'leave': do_leave,
    'fail': do_fail,
    'is': do_is,
    'sized': do_sized,
    'most': do_most,
    'alike': do_alike,
    'not': do_not,
}
