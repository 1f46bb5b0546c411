"""Words: what one of them looks like, and what it says."""

from runlore.kindsets import Kinds
from runlore.places import is_place
from runlore.values import is_integer, is_name


def is_word(thing):
    """Whether it has the form of a word."""
    if not isinstance(thing, tuple) or not thing or not isinstance(thing[0], str):
        return False
    if thing[0] == 'kinds':
        return len(thing) == 3 and is_place(thing[1]) and isinstance(thing[2], Kinds)
    if thing[0] == 'tie':
        return len(thing) == 4 and is_end(thing[1]) and is_end(thing[2]) and is_integer(thing[3])
    if thing[0] == 'alike':
        return len(thing) == 4 and is_pair(thing[1], thing[2]) and isinstance(thing[3], bool)
    return False


def is_end(thing):
    """Whether it may be one of the two places of a tie."""
    return thing is None or is_place(thing)


def is_pair(x, y):
    """Whether they may be the places of a sameness."""
    return is_place(x) and (is_place(y) or is_name(y))


def default_kinds(place):
    """The kind set of a place of which nothing is said."""
    return Kinds.everything() if len(place) == 1 else Kinds.present()


def opposite(word):
    """The word that just those inputs meet that do not meet this one."""
    if word[0] == 'kinds':
        return ('kinds', word[1], default_kinds(word[1]) - word[2])
    if word[0] == 'tie':
        return ('tie', word[2], word[1], -word[3] - 1)
    return ('alike', word[1], word[2], not word[3])


def end_order(end):
    """What puts None before all places."""
    return () if end is None else end
