"""Kind sets: sets of kinds that have finitely many sizes of tuples, or all but finitely many."""

from runlore.values import Fault, is_integer

WORDS = ('integer', 'atom', 'fault')


class Kinds:
    """A kind set; it never changes."""

    def __init__(self, words, but, sizes):
        # Equal sets are kept alike: words in the order of WORDS, sizes ascending.
        self._words = words
        self._but = but
        self._sizes = sizes

    @classmethod
    def everything(cls):
        """All kinds."""
        return Kinds(WORDS, True, ())

    @classmethod
    def present(cls):
        """All kinds but 'fault'."""
        return Kinds(('integer', 'atom'), True, ())

    @classmethod
    def of(cls, word):
        """Only the kind of this word, or all sizes for 'tuple'."""
        if word == 'tuple':
            return Kinds((), True, ())
        return Kinds((word,), False, ())

    @classmethod
    def sized(cls, k):
        """Only the size k."""
        return Kinds((), False, (k,))

    def __and__(self, other):
        words = tuple([word for word in self._words if word in other._words])
        if self._but and other._but:
            return Kinds(words, True, tuple(sorted(self._sizes + left_out(other._sizes, self._sizes))))
        if self._but:
            return Kinds(words, False, left_out(other._sizes, self._sizes))
        if other._but:
            return Kinds(words, False, left_out(self._sizes, other._sizes))
        return Kinds(words, False, tuple([k for k in self._sizes if k in other._sizes]))

    def __or__(self, other):
        return all_but(all_but(self) & all_but(other))

    def __sub__(self, other):
        return self & all_but(other)

    def __contains__(self, kind):
        if isinstance(kind, str):
            return kind in self._words
        if not is_integer(kind) or kind < 0:
            return False
        return (kind in self._sizes) != self._but

    def __eq__(self, other):
        return isinstance(other, Kinds) and parts_of(self) == parts_of(other)

    def __bool__(self):
        return bool(self._words) or bool(self._but) or bool(self._sizes)

    def __str__(self):
        return str(text_of(self))

    def __repr__(self):
        return f"<{text_of(self)}>"

    @property
    def only(self):
        """The kind, if there is exactly one, else None."""
        kinds = self._words + self._sizes
        return kinds[0] if len(kinds) == 1 and not self._but else None

    @property
    def size(self):
        """The only kind, if it is a size, else None."""
        return self._sizes[0] if len(self._sizes) == 1 and not self._words and not self._but else None

    @property
    def least(self):
        """The first kind, or None."""
        for word in ('integer', 'atom'):
            if word in self._words:
                return word
        if not self._but:
            return (*self._sizes, *self._words, None)[0]
        k = 0
        while k in self._sizes:
            k = k + 1
        return k

    def within(self, other):
        """Whether the other set has all kinds of this one."""
        return not bool(self - other)


def kind_in(thing):
    """The kind of a value or fault, as kind sets have it."""
    if isinstance(thing, Fault):
        return 'fault'
    if isinstance(thing, tuple):
        return len(thing)
    return 'atom' if isinstance(thing, str) else 'integer'


def parts_of(kinds):
    return kinds._words, kinds._but, kinds._sizes


def all_but(kinds):
    words, but, sizes = parts_of(kinds)
    return Kinds(tuple([word for word in WORDS if word not in words]), not but, sizes)


def left_out(sizes, others):
    return tuple([k for k in sizes if k not in others])


def text_of(kinds):
    words, but, sizes = parts_of(kinds)
    texts = [word for word in words if word != 'fault']
    if but or sizes:
        heads = ['tuple', 'but'] if but and sizes else ['tuple']
        texts.append(" ".join(heads + [str(k) for k in sizes]))
    if 'fault' in words:
        texts.append('fault')
    return "|".join(texts) if texts else 'nothing'
