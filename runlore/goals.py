"""Goals: what the words of a normal form want of the name answer."""

from runlore.kindsets import kind_in
from runlore.members import atom_at, thing_at
from runlore.termforms import moved_words


def unmet_place(words, value):
    """The place of the first word, ties left out, that a value does not meet, or None."""
    answer = {'answer': value}
    for word in words:
        if word[0] == 'kinds' and kind_in(thing_at(answer, word[1])) not in word[2]:
            return word[1]
        if word[0] == 'alike' and (atom_at(answer, word[1]) == atom_at(answer, word[2])) != word[3]:
            return word[1]
    return None


def led_ties(words, term):
    """The ties, as triples, led to the places of a term that meets all other words."""
    ties = [word for word in words if word[0] == 'tie']
    return [word[1:] for word in moved_words(ties, 'answer', term)]
