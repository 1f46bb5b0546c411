"""The state of runs, which can be copied before any step."""

from runlore.steps import body_steps


class Made:
    """A tuple that this run has made; its parts keep the weights that they had."""

    def __init__(self, parts):
        self.parts = parts
        self.weight = 1 + sum([weight_of(part) for part in parts])
        self.nest = 1 + max([nest_of(part) for part in parts], default=0)


def weight_of(thing):
    return thing.weight if isinstance(thing, Made) else 1


def nest_of(thing):
    return thing.nest if isinstance(thing, Made) else 0


class Loop:
    """Where a loop stands: the number of parts begun, and what it has collected."""

    def __init__(self, parts):
        self.parts = parts
        self.begun = 0
        self.found = []


class Frame:
    """A body that is being run, of the cell or definition called rule."""

    def __init__(self, rule, steps):
        self.rule = rule
        self.steps = steps
        self.at = 0
        self.slots = {}
        self.loops = []


class Run:
    """A run that stands before a step of its frame."""

    def __init__(self, book, view, frame):
        self.book = book
        self.view = view
        self.frame = frame
        self.callers = []
        self.called = {}
        self.stack = []
        self.work = 0
        self.fault = None


def started(book, body, rule, view):
    """A run of the body of a cell, before its first step."""
    return Run(book, view, Frame(rule, body_steps(body, ())))


def run_copy(run, view):
    """A run that stands where this one stands, and goes on by itself with another view."""
    other = Run(run.book, view, frame_copy(run.frame))
    other.callers = [frame_copy(frame) for frame in run.callers]
    # What is written of definitions is the same for all runs of a book.
    other.called = run.called
    other.stack = list(run.stack)
    other.work = run.work
    other.fault = run.fault
    return other


def frame_copy(frame):
    other = Frame(frame.rule, frame.steps)
    other.at = frame.at
    other.slots = {slot: frame.slots[slot] for slot in frame.slots}
    other.loops = [loop_copy(loop) for loop in frame.loops]
    return other


def loop_copy(loop):
    other = Loop(loop.parts)
    other.begun = loop.begun
    other.found = list(loop.found)
    return other
