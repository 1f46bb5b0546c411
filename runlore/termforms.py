"""What is known, applied to terms: how they are written, where they differ, what they put in for a name."""

from runlore.kindsets import Kinds
from runlore.known import impossible, kinds_in, known_with, normal_form
from runlore.likes import label_of
from runlore.terms import Built, Literal, Shifted, Whole, nested
from runlore.ties import bound_of
from runlore.values import Fault, is_integer


def written_term(known, term):
    """The one way to write all terms that have the same value at every member."""
    rows = []
    todo = [term]
    while todo:
        one = todo.pop()
        parts = parts_of_term(known, one)
        if parts is None:
            rows.append((None, written_leaf(known, one)))
        else:
            rows.append((len(parts), None))
            todo.extend(parts[::-1])
    return nested(rows, True)


def parts_of_term(known, term):
    """The terms of its parts, or None if it is not known to be a tuple of a known size."""
    if isinstance(term, Built):
        return list(term.parts)
    size = kinds_in(known.sets, term.place).size if isinstance(term, Whole) else None
    return None if size is None else [Whole(term.place + (index,)) for index in range(size)]


def written_leaf(known, term):
    if isinstance(term, Literal):
        return term
    if isinstance(term, Shifted):
        return written_integer(known.rows, term.place, term.by)
    word = kinds_in(known.sets, term.place).only
    if word == 'integer':
        return written_integer(known.rows, term.place, 0)
    if word == 'atom':
        label = label_of(known.likes, term.place)
        return Literal(label) if isinstance(label, str) else Whole(label)
    return term


def written_integer(rows, place, by):
    """The integer at a place plus another one, told from the first place that it hangs on."""
    if is_fixed(rows, place, None):
        return Literal(rows[place][None] + by)
    first = place
    if place in rows:
        first = min([place] + [y for y in rows[place] if y is not None and is_fixed(rows, place, y)])
    return Shifted(first, by + bound_of(rows, place, first))


def is_fixed(rows, x, y):
    """Whether x minus y is the same at all members."""
    most = bound_of(rows, x, y)
    back = bound_of(rows, y, x)
    return most is not None and back is not None and most + back == 0


def telling(known, one, other):
    """What is known at some members at which two terms differ, or None if there are none."""
    todo = [(written_term(known, one), written_term(known, other))]
    while todo:
        first, second = todo.pop()
        if isinstance(first, Built) and isinstance(second, Built) and len(first.parts) == len(second.parts):
            pairs = list(zip(first.parts, second.parts))
            todo.extend(pairs[::-1])
        elif first != second:
            return differing(known, first, second)
    return None


def differing(known, first, second):
    """What is known at some members at which they differ; they are written, and not two tuples of one size."""
    if is_number_term(first) and is_number_term(second):
        return numbers_differing(known, number_form(first), number_form(second))
    sets = set_of_term(known, first), set_of_term(known, second)
    if sets[0].only == 'atom' and sets[1].only == 'atom':
        return atoms_differing(known, atom_form(first), atom_form(second))
    kind = single(sets[0].least)
    if sets[1] - kind:
        return with_kinds(known, ((first, kind), (second, sets[1] - kind)))
    return with_kinds(known, ((first, sets[0] - kind),))


def is_number_term(term):
    """Whether a written term is an integer at every member."""
    return isinstance(term, Shifted) or (isinstance(term, Literal) and is_integer(term.value))


def number_form(term):
    """A place or None for the number 0, and what is added to it."""
    return (None, term.value) if isinstance(term, Literal) else (term.place, term.by)


def atom_form(term):
    return term.value if isinstance(term, Literal) else term.place


def numbers_differing(known, first, second):
    x, more = first
    y, other = second
    less = known_with(known, (('tie', x, y, other - more - 1),))
    return known_with(known, (('tie', y, x, more - other - 1),)) if less.conflict is not None else less


def atoms_differing(known, first, second):
    if isinstance(first, str):
        first, second = second, first
    if isinstance(first, str):
        return known
    return known_with(known, (('alike', first, second, False),))


def set_of_term(known, term):
    """The kinds that the term's value can have."""
    if isinstance(term, Whole):
        return kinds_in(known.sets, term.place)
    return single(kind_of_term(term))


def kind_of_term(term):
    """The kind of a term other than a whole place, or of a fault."""
    if isinstance(term, Fault):
        return 'fault'
    if isinstance(term, Built):
        return len(term.parts)
    return 'integer' if is_number_term(term) else 'atom'


def single(kind):
    """The kind set of one kind."""
    return Kinds.sized(kind) if is_integer(kind) else Kinds.of(kind)


def with_kinds(known, pairs):
    """What is known where whole places have only these kinds."""
    return known_with(known, [('kinds', term.place, kinds) for term, kinds in pairs if isinstance(term, Whole)])


def put_in(known, name, result, base):
    """What is known of the inputs of the base for which the other is true once the name has the result."""
    if base.conflict is not None:
        return base
    if known.conflict is not None:
        return impossible(known.conflict)
    words = moved_words(normal_form(known), name, result)
    return impossible(('kinds', (name,))) if words is None else known_with(base, words)


def moved_words(words, name, result):
    """What a normal form says of the inputs once the name has the result, or None if the result cannot meet it.

    Behind a kind that the result lacks there may be words on parts that it does not have.
    Ties and samenesses may be left between numbers, or between atoms: all that knows them takes these.
    """
    found = []
    for word in words:
        if word[0] == 'kinds':
            term = term_at(word[1], name, result)
            if isinstance(term, Whole):
                found.append(('kinds', term.place, word[2]))
            elif kind_of_term(term) not in word[2]:
                return None
        elif word[0] == 'tie':
            x, more = integer_at(word[1], name, result)
            y, other = integer_at(word[2], name, result)
            found.append(('tie', x, y, word[3] - more + other))
        else:
            found.append(('alike', atom_at(word[1], name, result), atom_at(word[2], name, result), word[3]))
    return found


def term_at(place, name, result):
    """What tells the thing at a place once the name has the result: a term or fault."""
    if place[0] != name:
        return Whole(place)
    term = result
    for index in place[1:]:
        term = term.parts[index] if isinstance(term, Built) else Whole(term.place + (index,))
    return term


def integer_at(end, name, result):
    if end is None:
        return (None, 0)
    term = term_at(end, name, result)
    return (term.place, 0) if isinstance(term, Whole) else number_form(term)


def atom_at(end, name, result):
    return end if isinstance(end, str) else atom_form(term_at(end, name, result))
