"""Terms: what tells a value by places of inputs."""

from runlore.errors import NoPlace
from runlore.places import value_at
from runlore.values import is_integer


class Term:
    """The base class of the terms."""


class Literal(Term):
    """An integer or atom."""

    def __init__(self, value):
        self.value = value
        self.places = ()
        self.weight = 1

    def __call__(self, inputs):
        return self.value

    def __eq__(self, other):
        return isinstance(other, Literal) and self.value == other.value

    def __str__(self):
        if isinstance(self.value, str):
            return f"'{self.value}"
        return str(self.value)


class Whole(Term):
    """The value at the place."""

    def __init__(self, place):
        self.place = place
        self.places = (place,)
        self.weight = 1

    def __call__(self, inputs):
        return value_at(inputs, self.place)

    def __eq__(self, other):
        return isinstance(other, Whole) and self.place == other.place

    def __str__(self):
        return str(place_text(self.place))


class Shifted(Term):
    """The integer at the place, plus an integer."""

    def __init__(self, place, by):
        self.place = place
        self.by = by
        self.places = (place,)
        self.weight = 1

    def __call__(self, inputs):
        value = value_at(inputs, self.place)
        if not is_integer(value):
            raise NoPlace(self.place)
        return value + self.by

    def __eq__(self, other):
        return isinstance(other, Shifted) and self.place == other.place and self.by == other.by

    def __str__(self):
        return f"{place_text(self.place)}{self.by:+d}"


class Built(Term):
    """The tuple of the values of its parts."""

    def __init__(self, parts):
        self.parts = tuple(parts)
        self.places = places_in(self.parts)
        self.weight = 1 + sum([part.weight for part in self.parts])

    def __call__(self, inputs):
        rows = []
        for one in flat_terms(self):
            if isinstance(one, Built):
                rows.append((len(one.parts), None))
            else:
                rows.append((None, one(inputs)))
        return nested(rows, False)

    def __eq__(self, other):
        return isinstance(other, Built) and self.weight == other.weight and is_same_tree(self, other)

    def __str__(self):
        return " ".join(words_of(self))


# Terms may nest as deep as values do, so what goes through them keeps a list of what is left to do.

def place_text(place):
    return "@" + ".".join([str(step) for step in place])


def places_in(terms):
    found = {}
    for term in terms:
        for place in term.places:
            found[place] = True
    return tuple(sorted(list(found)))


def flat_terms(term):
    """All terms in it, each before its parts, from left to right."""
    found = []
    todo = [term]
    while todo:
        one = todo.pop()
        found.append(one)
        if isinstance(one, Built):
            todo.extend(list(one.parts[::-1]))
    return found


def is_same_tree(one, other):
    """Whether two terms of one weight are built alike from equal terms."""
    for first, second in zip(flat_terms(one), flat_terms(other)):
        if isinstance(first, Built) and isinstance(second, Built):
            if len(first.parts) != len(second.parts):
                return False
        elif isinstance(first, Built) or first != second:
            return False
    return True


def words_of(term):
    words = []
    todo = [term]
    while todo:
        one = todo.pop()
        if isinstance(one, Built):
            words.append("(")
            todo.append(")")
            todo.extend(list(one.parts[::-1]))
        else:
            words.append(str(one))
    return words


def nested(rows, as_term):
    """What rows (size, leaf) tell, each tuple before its parts: a tuple, or a term.

    The size of a leaf is None.
    """
    done = []
    for size, leaf in rows[::-1]:
        if size is None:
            done.append(leaf)
        else:
            first = len(done) - size
            parts = tuple(done[first:][::-1])
            del done[first:]
            done.append(Built(parts) if as_term else parts)
    return done[0]
