"""A plain search over small inputs, and the meaning of words, written without the package's regions."""

import itertools
import random

from runlore.kindsets import Kinds
from runlore.values import Fault

# Sizes from 4 on are never named in these tests, so 6 stands for all of them.
KINDS = ('integer', 'atom', 'fault', 0, 1, 2, 3, 6)
INTEGERS = (0, 1, -1, 2, -2)
ATOMS = ('a', 'b', 'c')


def small_values():
    parts = (0, 1, -1, 'a', 'b')
    values = list(INTEGERS) + list(ATOMS) + [()]
    for size in (1, 2):
        values.extend(itertools.product(parts, repeat=size))
    values.append(((0,), 1))
    values.append((0, 1, 'a'))
    return values


VALUES = tuple(small_values())
THINGS = VALUES + (Fault('read'),)


def small_inputs(names):
    return [dict(zip(names, row)) for row in itertools.product(THINGS, repeat=len(names))]


def thing_at(given, place):
    """What is at a place, None if there is nothing."""
    thing = given.get(place[0])
    for index in place[1:]:
        if not isinstance(thing, tuple) or index >= len(thing):
            return None
        thing = thing[index]
    return thing


def kind_of_thing(thing):
    if isinstance(thing, Fault):
        return 'fault'
    if isinstance(thing, tuple):
        return len(thing)
    return 'atom' if isinstance(thing, str) else 'integer'


def number_at(given, end):
    return 0 if end is None else thing_at(given, end)


def meets(word, given):
    """Whether inputs meet a word, if all before it are met."""
    if word[0] == 'kinds':
        thing = thing_at(given, word[1])
        return thing is not None and kind_of_thing(thing) in word[2]
    if word[0] == 'tie':
        return number_at(given, word[1]) - number_at(given, word[2]) <= word[3]
    other = word[2] if isinstance(word[2], str) else thing_at(given, word[2])
    return (thing_at(given, word[1]) == other) == word[3]


def meets_all(words, given):
    return all(meets(word, given) for word in words)


def default(place):
    return set(KINDS) if len(place) == 1 else set(KINDS) - {'fault'}


def kinds_after(words, place):
    """The kinds that words leave at a place, as [21] says it."""
    left = default(place)
    for word in words:
        if word[0] == 'kinds' and word[1] == place:
            left = {kind for kind in left if kind in word[2]}
    return left


def there_after(words, place):
    for step in range(1, len(place)):
        kinds = kinds_after(words, place[:step])
        if len(kinds) != 1:
            return False
        size = next(iter(kinds))
        if size == 6 or not isinstance(size, int) or size <= place[step]:
            return False
    return True


def grounded_after(words, word):
    if word[0] == 'kinds':
        return there_after(words, word[1])
    want = {'integer'} if word[0] == 'tie' else {'atom'}
    ends = [end for end in word[1:3] if isinstance(end, tuple)]
    return all(there_after(words, end) and kinds_after(words, end) == want for end in ends)


KIND_SETS = (
    Kinds.of('integer'), Kinds.of('integer'), Kinds.of('integer'), Kinds.of('atom'), Kinds.of('atom'),
    Kinds.sized(2), Kinds.sized(2), Kinds.sized(1), Kinds.of('fault'), Kinds.present(),
    Kinds.of('integer') | Kinds.of('atom'), Kinds.of('tuple'), Kinds.of('tuple') - Kinds.sized(0),
    Kinds.everything() - Kinds.sized(2), Kinds.sized(1) | Kinds.sized(2))

PLACES = (('x',), ('y',), ('x', 0), ('x', 1), ('y', 0), ('y', 1))


def random_word(chance, words, places=PLACES):
    """A random word; mostly one that is grounded."""
    for _ in range(30):
        sort = chance.choice(('kinds', 'tie', 'tie', 'alike'))
        place, other = chance.choice(places), chance.choice(places)
        if sort == 'kinds':
            word = (sort, place, chance.choice(KIND_SETS))
        elif sort == 'tie':
            ends = [place, other, None]
            chance.shuffle(ends)
            word = (sort, ends[0], ends[1], chance.randint(-2, 2))
        else:
            word = (sort, place, chance.choice((other, other) + ATOMS), chance.choice((True, False)))
        if grounded_after(words, word):
            break
    return word


def random_words(chance, many, places=PLACES):
    """Words, each grounded by those before."""
    words = []
    for _ in range(many):
        word = random_word(chance, words, places)
        if grounded_after(words, word):
            words.append(word)
    return words


def rich_start(chance):
    """Words by which some places are integers or atoms alone."""
    words = []
    for name in ('x', 'y'):
        sort = chance.choice(('integer', 'atom', 'pair', 'pair', 'open'))
        if sort == 'pair':
            words.append(('kinds', (name,), Kinds.sized(2)))
            for index in (0, 1):
                kind = chance.choice(('integer', 'integer', 'atom', 'atom', 'open'))
                if kind != 'open':
                    words.append(('kinds', (name, index), Kinds.of(kind)))
        elif sort != 'open':
            words.append(('kinds', (name,), Kinds.of(sort)))
    return words


def rich_words(chance, many):
    words = rich_start(chance)
    for _ in range(many):
        word = random_word(chance, words)
        if grounded_after(words, word) and (word[0] != 'kinds' or chance.random() < 0.3):
            words.append(word)
    return words


def dice(seed):
    return random.Random(seed)


def order_key(thing):
    """The order of values, faults last, for sorting."""
    if isinstance(thing, Fault):
        return (3,)
    if isinstance(thing, tuple):
        return (2, len(thing), tuple(order_key(part) for part in thing))
    if isinstance(thing, str):
        return (1, len(thing), thing)
    return (0, abs(thing), thing < 0)


def inputs_key(given):
    return [(name, order_key(given[name])) for name in sorted(given)]
