"""Names, values, faults, and the order of values."""


class Fault:
    """What went wrong in a run."""

    def __init__(self, word, rule='', path=()):
        self.word = word
        self.rule = rule
        self.path = path

    def __eq__(self, other):
        return isinstance(other, Fault) and self.word == other.word

    def __str__(self):
        return f"fault {self.word}"

    def __repr__(self):
        return f"Fault({self.word!r})"


def is_name(thing):
    """Whether it is a string of 1 to 8 letters a to z."""
    if not isinstance(thing, str) or not 1 <= len(thing) <= 8:
        return False
    return all(['a' <= letter <= 'z' for letter in thing])


def is_integer(thing):
    """Whether it is an integer; booleans are none."""
    return isinstance(thing, int) and not isinstance(thing, bool)


def is_value(thing):
    """Whether it is an integer, an atom, or a tuple of values."""
    todo = [thing]
    while todo:
        one = todo.pop()
        if isinstance(one, tuple):
            todo.extend(one)
        elif not is_integer(one) and not is_name(one):
            return False
    return True


def kind_of(value):
    """'integer', 'atom' or 'tuple'."""
    if isinstance(value, tuple):
        return 'tuple'
    if isinstance(value, str):
        return 'atom'
    return 'integer'


def depth_of(value):
    """How many tuples are inside one another."""
    depth = 0
    layer = [value]
    while True:
        layer = [one for one in layer if isinstance(one, tuple)]
        if not layer:
            return depth
        depth = depth + 1
        layer = [part for one in layer for part in one]


def rank_of(thing):
    """What orders all but tuples of one size: equal ranks tell nothing apart."""
    if isinstance(thing, Fault):
        return (3,)
    if isinstance(thing, tuple):
        return (2, len(thing))
    if isinstance(thing, str):
        return (1, len(thing), thing)
    return (0, abs(thing), thing < 0)


def is_before(one, other):
    """Whether one value or fault comes before another one."""
    todo = [(one, other)]
    while todo:
        first, second = todo.pop()
        if rank_of(first) != rank_of(second):
            return rank_of(first) < rank_of(second)
        if isinstance(first, tuple):
            pairs = list(zip(first, second))
            todo.extend(pairs[::-1])
    return False
