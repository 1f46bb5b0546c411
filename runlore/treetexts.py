"""Texts of expressions."""

from runlore.errors import NoText
from runlore.forms import sorted_items, sorts_behind
from runlore.values import is_name

MOST_BRACKETS = 40
MOST_DIGITS = 18


def show_expression(tree):
    """The text of an expression."""
    words = []
    todo = [tree]
    while todo:
        one = todo.pop()
        if isinstance(one, str):
            words.append(one)
        elif one[0] in ('int', 'name'):
            words.append(str(one[1]))
        elif one[0] == 'atom':
            words.append(f"'{one[1]}")
        else:
            things = further_things(one)
            words.extend(["(", one[0]])
            todo.append(")")
            todo.extend(things[::-1])
    return " ".join(words)


def further_things(tree):
    """What stands behind the first word of a tree: words and trees."""
    things = []
    for item, sort in sorted_items(tree):
        if sort == 'expressions':
            things.extend(item)
        elif sort in ('integer', 'index'):
            things.append(str(item))
        else:
            things.append(item)
    return things


class Bracket:
    """A bracket that is open: its first word, once read, and what has been read behind it."""

    def __init__(self, wanted):
        self.wanted = wanted
        self.head = None
        self.sorts = ()
        self.found = []


class Reader:
    """What has been read of a text: the brackets that are open, or the expression."""

    def __init__(self):
        self.brackets = []
        self.tree = None


def read_expression(text):
    """The expression of a text."""
    reader = Reader()
    words = text.split(" ")
    for at, word in enumerate(words):
        if not read_word(reader, word):
            raise NoText(at)
    if reader.tree is None:
        raise NoText(len(words))
    return reader.tree


def read_word(reader, word):
    """Reads one word more; returns whether it can stand here."""
    if reader.tree is not None:
        return False
    if not reader.brackets:
        return read_item(reader, word, 'expression')
    bracket = reader.brackets[-1]
    if bracket.head is None:
        return read_head(reader, word)
    many = len(bracket.found)
    if bracket.sorts[-1] == 'expressions' and many >= len(bracket.sorts) - 1:
        return close_bracket(reader) if word == ")" else read_item(reader, word, 'expression')
    if many == len(bracket.sorts):
        return word == ")" and close_bracket(reader)
    return read_item(reader, word, bracket.sorts[many])


def read_head(reader, word):
    """Reads the first word in a bracket."""
    bracket = reader.brackets[-1]
    sorts = sorts_behind(word, bracket.wanted)
    if sorts is None or word in ('int', 'atom', 'name'):
        return False
    # A test always needs a bracket of its own.
    if 'test' in sorts and len(reader.brackets) == MOST_BRACKETS:
        return False
    bracket.head = word
    bracket.sorts = sorts
    return True


def close_bracket(reader):
    bracket = reader.brackets.pop()
    found = bracket.found
    if bracket.sorts[-1] == 'expressions':
        many = len(bracket.sorts) - 1
        found = [*found[:many], tuple(found[many:])]
    keep(reader, (bracket.head, *found))
    return True


def keep(reader, thing):
    """Puts what has been read where it belongs."""
    if reader.brackets:
        reader.brackets[-1].found.append(thing)
    else:
        reader.tree = thing


def read_item(reader, word, sort):
    """Reads a word where something of this sort must stand or begin."""
    if word == "(" and sort in ('expression', 'test'):
        if len(reader.brackets) == MOST_BRACKETS:
            return False
        reader.brackets.append(Bracket(sort))
        return True
    if not can_be(word, sort):
        return False
    if sort == 'expression':
        keep(reader, leaf_of(word))
    else:
        keep(reader, int(word) if sort in ('integer', 'index') else word)
    return True


def can_be(word, sort):
    """Whether a word alone is the text of something of this sort."""
    if sort == 'expression':
        return is_number(word) or is_name(word) or (word[:1] == "'" and is_name(word[1:]))
    if sort == 'integer':
        return is_number(word)
    if sort == 'index':
        return is_number(word) and word[0] != "-"
    if sort == 'kind':
        return word in ('integer', 'atom', 'tuple')
    return sort == 'name' and is_name(word)


def is_number(word):
    """Whether it is the text of an integer."""
    digits = word.removeprefix("-")
    if not 1 <= len(digits) <= MOST_DIGITS or not all(['0' <= digit <= '9' for digit in digits]):
        return False
    return digits[0] != "0" or word == "0"


def leaf_of(word):
    """The expression of a word alone."""
    if word[0] == "'":
        return ('atom', word[1:])
    return ('name', word) if is_name(word) else ('int', int(word))
