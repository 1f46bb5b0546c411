"""Samenesses: which places have the same atom, and which have different ones.

Atoms are never used up: places that may differ from finitely many atoms always can.
"""


class Likes:
    """What is known of atoms; it never changes.

    labels gives each place that is spoken of the label of its class: the atom that all
    of the class are, or the first place of the class. apart has the pairs of labels,
    in both orders, that are different.
    """

    def __init__(self, labels, apart):
        self.labels = labels
        self.apart = apart


def label_of(likes, thing):
    """The label of a place or atom."""
    return likes.labels.get(thing, thing)


def is_same(likes, one, other):
    """Whether they are the same at all members."""
    return label_of(likes, one) == label_of(likes, other)


def is_apart(likes, one, other):
    """Whether they are different at all members."""
    first = label_of(likes, one)
    second = label_of(likes, other)
    if isinstance(first, str) and isinstance(second, str):
        return first != second
    return (first, second) in likes.apart


def follows(likes, one, other, yes):
    """Whether they are the same, or different, at all members."""
    return is_same(likes, one, other) if yes else is_apart(likes, one, other)


def likes_with(likes, one, other, yes):
    """Likes in which they are the same or different, too. The opposite does not follow."""
    if follows(likes, one, other, yes):
        return likes
    first = label_of(likes, one)
    second = label_of(likes, other)
    return merged(likes, first, second) if yes else parted(likes, first, second)


def merged(likes, first, second):
    """Likes in which the classes of two labels are one."""
    if isinstance(second, str) or (not isinstance(first, str) and second < first):
        kept, gone = second, first
    else:
        kept, gone = first, second
    labels = {}
    for place in likes.labels:
        labels[place] = kept if likes.labels[place] == gone else likes.labels[place]
    for label in (kept, gone):
        if not isinstance(label, str):
            labels[label] = kept
    apart = {}
    for one, other in likes.apart:
        first = kept if one == gone else one
        second = kept if other == gone else other
        if not isinstance(first, str) or not isinstance(second, str):
            apart[(first, second)] = True
    return Likes(labels, apart)


def parted(likes, first, second):
    """Likes in which the classes of two labels are different."""
    labels = {}
    for place in likes.labels:
        labels[place] = likes.labels[place]
    apart = {}
    for pair in likes.apart:
        apart[pair] = True
    for label in (first, second):
        if not isinstance(label, str):
            labels[label] = label
    apart[(first, second)] = True
    apart[(second, first)] = True
    return Likes(labels, apart)


def unlike(likes, label):
    """The labels that are different from this one."""
    return [other for one, other in likes.apart if one == label]


def classes_of(likes):
    """Pairs of a label and the places of its class, ascending; classes by their first places."""
    members = {}
    for place in sorted(list(likes.labels)):
        label = likes.labels[place]
        members[label] = members.get(label, ()) + (place,)
    return [(label, members[label]) for label in members]


def triples_in(likes):
    """All that is known, in the order of the normal form."""
    found = []
    classes = classes_of(likes)
    firsts = [places[0] for label, places in classes if not isinstance(label, str)]
    for label, places in classes:
        found.extend([(places[0], place, True) for place in places[1:]])
        if isinstance(label, str):
            found.append((places[0], label, True))
            continue
        others = unlike(likes, label)
        atoms = sorted([other for other in others if isinstance(other, str)], key=length_first)
        found.extend([(label, atom, False) for atom in atoms])
        found.extend([(label, first, False) for first in firsts if first > label and first in others])
    return found


def length_first(atom):
    return len(atom), atom


def next_atom(atom):
    """The atom that comes next, by length, then alphabetically; the first one for ''."""
    kept = atom.rstrip("z")
    if not kept:
        return "a" * (len(atom) + 1)
    letters = "abcdefghijklmnopqrstuvwxyz"
    return kept[:-1] + letters[letters.index(kept[-1]) + 1] + "a" * (len(atom) - len(kept))


def least_atom(others):
    """The least atom that is none of these."""
    atom = "a"
    while atom in others:
        atom = next_atom(atom)
    return atom
