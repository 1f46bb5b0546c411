"""Forms: which items the trees of bodies have.

The sort of an item is 'expression', 'test', 'expressions' (a tuple of them), 'integer',
'index' (an integer from 0 on), 'name' or 'kind'. 'expressions' stands only at the end.
"""

from runlore.values import is_integer, is_name

EXPRESSIONS = {
    'int': ('integer',),
    'atom': ('name',),
    'name': ('name',),
    'plus': ('expression', 'integer'),
    'tuple': ('expressions',),
    'part': ('expression', 'index'),
    'join': ('expression', 'expression'),
    'read': ('name',),
    'reach': ('expression',),
    'call': ('name', 'expressions'),
    'let': ('name', 'expression', 'expression'),
    'if': ('test', 'expression', 'expression'),
    'each': ('name', 'expression', 'expression'),
    'pick': ('name', 'expression', 'test'),
    'fold': ('name', 'expression', 'name', 'expression', 'expression'),
    'fail': ('name',),
}
TESTS = {
    'is': ('kind', 'expression'),
    'sized': ('expression', 'index'),
    'most': ('expression', 'integer', 'expression'),
    'alike': ('expression', 'expression'),
    'not': ('test',),
    'both': ('test', 'test'),
    'either': ('test', 'test'),
}


def sorts_behind(word, wanted):
    """The sorts of the items behind the first word of an expression or test, None for another word."""
    return TESTS.get(word) if wanted == 'test' else EXPRESSIONS.get(word)


def has_sort(item, sort):
    """Whether an item is of a sort; what must be a tree is not looked into."""
    if sort == 'integer':
        return is_integer(item)
    if sort == 'index':
        return is_integer(item) and item >= 0
    if sort == 'name':
        return is_name(item)
    if sort == 'kind':
        return item in ('integer', 'atom', 'tuple')
    return sort != 'expressions' or isinstance(item, tuple)


def has_form(tree, wanted):
    """Whether it is an expression or test, as wanted, trees inside left aside."""
    if not isinstance(tree, tuple) or not tree or not isinstance(tree[0], str):
        return False
    sorts = sorts_behind(tree[0], wanted)
    if sorts is None or len(tree) != len(sorts) + 1:
        return False
    return all([has_sort(item, sort) for item, sort in zip(tree[1:], sorts)])


def sorted_items(tree):
    """Pairs of an item and its sort, for all items behind the first word of a tree."""
    wanted = 'test' if tree[0] in TESTS else 'expression'
    return list(zip(tree[1:], sorts_behind(tree[0], wanted)))


def inner_trees(tree):
    """Triples of the path, the tree, and whether it is an expression or test, for the trees directly inside."""
    found = []
    for index, (item, sort) in enumerate(sorted_items(tree), 1):
        if sort == 'expressions':
            found.extend([((index, at), inner, 'expression') for at, inner in enumerate(item)])
        elif sort in ('expression', 'test'):
            found.append(((index,), item, sort))
    return found


def names_bound(tree):
    """The names that a tree binds."""
    if tree[0] == 'fold':
        return (tree[1], tree[3])
    return (tree[1],) if tree[0] in ('let', 'each', 'pick') else ()


def path_of_scope(tree):
    """The path of the tree in which the names of a binder are bound: the last one in it."""
    return (len(tree) - 1,)
