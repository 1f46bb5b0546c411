"""Regions: sets of inputs, told by words."""

from runlore.errors import NoWord
from runlore.known import (
    Known, differences, first_wrong, is_grounded, is_implied, is_there, kinds_in, known_with, normal_form,
    nothing_known)
from runlore.members import is_member, least_member
from runlore.termforms import put_in, telling, written_term
from runlore.wordforms import is_word


class Region:
    """The inputs that meet all words; it never changes."""

    def __init__(self, words=()):
        # The package itself makes regions of what is known.
        self.known = words if isinstance(words, Known) else known_of(words)
        self.conflict = self.known.conflict

    def __contains__(self, given):
        return isinstance(given, dict) and is_member(self.known, given)

    def __bool__(self):
        return self.conflict is None

    def __and__(self, other):
        if self.conflict is not None:
            return self
        if other.conflict is not None:
            return other
        return Region(known_with(self.known, other.words))

    def __sub__(self, other):
        if self.conflict is not None:
            return ()
        if other.conflict is not None:
            return (self,)
        return tuple([Region(known) for known in differences(self.known, other.words)])

    def __eq__(self, other):
        return isinstance(other, Region) and self.words == other.words

    @property
    def words(self):
        """The normal form: a tuple of words, or None without a member."""
        return normal_form(self.known)

    @property
    def least(self):
        """The least member, or None."""
        return None if self.conflict is not None else least_member(self.known)

    def within(self, other):
        """Whether all members are members of the other region."""
        if self.conflict is not None:
            return True
        if other.conflict is not None:
            return False
        return all([is_implied(self.known, word) for word in other.words])

    def kinds(self, p):
        """The kind set at a place that is there, else None."""
        if self.conflict is not None or not is_there(self.known.sets, p):
            return None
        return kinds_in(self.known.sets, p)

    def with_word(self, word):
        """The region with one word more."""
        if self.conflict is not None:
            return self
        if not is_word(word) or not is_grounded(self.known.sets, word):
            raise NoWord(0)
        return Region(known_with(self.known, (word,)))

    def implies(self, word):
        """Whether the word is grounded here and every member meets it."""
        if self.conflict is not None:
            return True
        return is_word(word) and is_implied(self.known, word)

    def written(self, term):
        """The term in the form that all terms have that are the same at every member."""
        return written_term(self.known, term)

    def distinguish(self, one, other):
        """Some member at which two terms differ, or None."""
        known = telling(self.known, one, other)
        return None if known is None else least_member(known)

    def substituted(self, name, result, base):
        """The members of the base that are members here once the name has the value of the result."""
        return Region(put_in(self.known, name, result, base.known))


def known_of(words):
    """What words say, if each is grounded by those before it."""
    wrong = first_wrong(words)
    if wrong is not None:
        raise NoWord(wrong)
    return known_with(nothing_known(), words)
