"""What is known of inputs: the state behind a region."""

from runlore.likes import Likes, follows, likes_with, triples_in
from runlore.ties import bound_of, is_against, ring_in, rows_with, triples_of
from runlore.wordforms import default_kinds, end_order, is_word, opposite


class Known:
    """Kind sets, ties and samenesses, with all that follows from them; it never changes.

    sets is a dict from places to the kind sets that words gave them. conflict is None
    if there are inputs of which all this is true, else as a region tells it.
    """

    def __init__(self, sets, rows, likes, conflict):
        self.sets = sets
        self.rows = rows
        self.likes = likes
        self.conflict = conflict


def nothing_known():
    return Known({}, {}, Likes({}, {}), None)


def impossible(conflict):
    """What no inputs are like."""
    return Known({}, {}, Likes({}, {}), conflict)


def kinds_in(sets, place):
    """The kind set at a place, whether it is there or not."""
    return sets[place] if place in sets else default_kinds(place)


def is_there(sets, place):
    """Whether all tuples that the place is inside of have known sizes and the parts it needs."""
    for step in range(1, len(place)):
        size = kinds_in(sets, place[:step]).size
        if size is None or size <= place[step]:
            return False
    return True


def is_alone(sets, place, word):
    """Whether the place is there and has this kind alone."""
    return is_there(sets, place) and kinds_in(sets, place).only == word


def is_grounded(sets, word):
    """Whether a word may be said where the kind sets are these."""
    if word[0] == 'kinds':
        return is_there(sets, word[1])
    if word[0] == 'tie':
        return all([end is None or is_alone(sets, end, 'integer') for end in word[1:3]])
    return all([isinstance(end, str) or is_alone(sets, end, 'atom') for end in word[1:3]])


def kinds_with(sets, words):
    """Kind sets that meet words, too."""
    new = {}
    for place in sets:
        new[place] = sets[place]
    for word in words:
        if word[0] == 'kinds':
            new[word[1]] = kinds_in(new, word[1]) & word[2]
    return new


def first_wrong(words):
    """The index of the first item that is no word or not grounded by those before, or None."""
    sets = {}
    for at, word in enumerate(words):
        if not is_word(word) or not is_grounded(sets, word):
            return at
        if word[0] == 'kinds':
            sets[word[1]] = kinds_in(sets, word[1]) & word[2]
    return None


def known_with(known, words):
    """What is known with some words more; there are inputs for what is known so far.

    The words are grounded, or stand behind a word that leaves a place no kind.
    """
    sets = kinds_with(known.sets, words)
    for word in words:
        if word[0] == 'kinds' and not sets[word[1]]:
            return impossible(('kinds', word[1]))
    ties = [word[1:] for word in words if word[0] == 'tie']
    rows = joined_rows(known.rows, ties)
    if rows is None:
        return impossible(('cycle', found_ring(known.rows, ties)))
    facts = [word[1:] for word in words if word[0] == 'alike']
    likes = joined_likes(known.likes, facts)
    if likes is None:
        return impossible(('alike', tuple(triples_in(known.likes) + facts)))
    return Known(sets, rows, likes, None)


def joined_rows(rows, ties):
    """Rows with all ties, or None if they are against one."""
    for x, y, c in ties:
        if is_against(rows, x, y, c):
            return None
        rows = rows_with(rows, x, y, c)
    return rows


def found_ring(rows, ties):
    """Triples of the rows and ties in a ring that no integers meet."""
    x, y, c = ties[0]
    if len(ties) > 1:
        return ring_in(triples_of(rows) + ties)
    return ((x, y, c),) if x == y else ((x, y, c), (y, x, bound_of(rows, y, x)))


def joined_likes(likes, facts):
    """Likes with all facts, or None if they are against one."""
    for one, other, yes in facts:
        if follows(likes, one, other, not yes):
            return None
        likes = likes_with(likes, one, other, yes)
    return likes


def is_implied(known, word):
    """Whether what is known grounds the word and lets it follow."""
    if not is_grounded(known.sets, word):
        return False
    if word[0] == 'kinds':
        return kinds_in(known.sets, word[1]).within(word[2])
    if word[0] == 'tie':
        bound = bound_of(known.rows, word[1], word[2])
        return bound is not None and bound <= word[3]
    return follows(known.likes, word[1], word[2], word[3])


def told_places(known):
    """The places that are there whose kind sets are not their defaults, in order."""
    return [place for place in sorted(list(known.sets)) if known.sets[place] != default_kinds(place)]


def normal_form(known):
    """The words of what is known, None if there are no such inputs."""
    if known.conflict is not None:
        return None
    words = [('kinds', place, known.sets[place]) for place in told_places(known)]
    for x in sorted(list(known.rows), key=end_order):
        row = known.rows[x]
        words.extend([('tie', x, y, row[y]) for y in sorted(list(row), key=end_order)])
    words.extend([('alike', x, y, yes) for x, y, yes in triples_in(known.likes)])
    return tuple(words)


def differences(known, words):
    """What is known, without those that meet all words of a normal form: a list without common inputs."""
    found = []
    for word in words:
        if known.conflict is not None:
            break
        if not is_implied(known, word):
            other = known_with(known, (opposite(word),))
            if other.conflict is None:
                found.append(other)
            known = known_with(known, (word,))
    return found
