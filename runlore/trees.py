"""Books of definitions, and the trees of which bodies are made."""

from runlore.errors import NoBook, NoCell
from runlore.forms import has_form, inner_trees, names_bound, path_of_scope
from runlore.values import is_integer, is_name


class Book:
    """Definitions (name, parameters, falls, body), found by their names."""

    def __init__(self, definitions):
        self.definitions = tuple(definitions)
        check_definitions(self.definitions)

    def __len__(self):
        return len(self.definitions)

    def __getitem__(self, name):
        for definition in self.definitions:
            if definition[0] == name:
                return definition
        raise NoCell(name)

    def __iter__(self):
        raise TypeError("a book is asked by names")

    def __eq__(self, other):
        return isinstance(other, Book) and self.definitions == other.definitions


class Calls:
    """What a body may call: numbers of arguments by name, and itself where one of them falls."""

    def __init__(self, counts, own, falls):
        self.counts = counts
        self.own = own
        self.falls = falls


def children(tree):
    """Pairs of path and tree for the trees directly inside, ascending."""
    return tuple([(path, inner) for path, inner, _ in inner_trees(tree)])


def subtree(tree, path):
    """The tree at a path."""
    for index in path:
        tree = tree[index]
    return tree


def count(tree):
    """The number of trees in it, itself included."""
    return len(all_trees(tree))


def all_trees(tree):
    """All trees in it, each before those inside it, these by path."""
    found = []
    todo = [tree]
    while todo:
        one = todo.pop()
        found.append(one)
        todo.extend([inner for _, inner, _ in inner_trees(one)][::-1])
    return found


def look_body(book, body, *, name=''):
    """Checks the body of a cell; the name is that of the error."""
    found = first_wrong_tree(body, {}, Calls(counts_in(book.definitions), None, None))
    if found is not None:
        raise NoBook(found[0], name, found[1])
    return True


def counts_in(definitions):
    """The numbers of parameters of definitions, by name."""
    return {definition[0]: len(definition[1]) for definition in definitions}


def check_definitions(definitions):
    for at, definition in enumerate(definitions):
        if not isinstance(definition, tuple) or len(definition) != 4 or not isinstance(definition[1], tuple):
            raise NoBook('form', '', ())
        counts = counts_in(definitions[:at])
        name, parameters, falls, body = definition
        word = wrong_head(name, parameters, falls, counts)
        if word is not None:
            raise NoBook(word, name, ())
        if falls is not None:
            counts[name] = len(parameters)
        scope = {parameter: 'own' if index == falls else '' for index, parameter in enumerate(parameters)}
        found = first_wrong_tree(body, scope, Calls(counts, name, falls))
        if found is not None:
            raise NoBook(found[0], name, found[1])


def wrong_head(name, parameters, falls, counts):
    """What is wrong with a definition apart from its body, or None."""
    if not is_name(name):
        return 'name'
    if name in counts:
        return 'twice'
    for index, parameter in enumerate(parameters):
        if not is_name(parameter) or parameter in parameters[:index]:
            return 'parameter'
    if falls is not None and not (is_integer(falls) and 0 <= falls < len(parameters)):
        return 'falls'
    return None


def first_wrong_tree(body, parameters, calls):
    """The first wrong tree of a body: what is wrong with it, and its path; or None.

    A scope is a dict from the names that are bound to what they hold: 'own', 'piece' or ''.
    """
    taken = {name: True for name in parameters}
    todo = [(body, (), 'expression', parameters)]
    while todo:
        tree, path, wanted, scope = todo.pop()
        word = wrong_word(tree, wanted, scope, taken, calls)
        if word is not None:
            return word, path
        for name in names_bound(tree):
            taken[name] = True
        rows = []
        for step, inner, sort in inner_trees(tree):
            rows.append((inner, path + step, sort, inner_scope(tree, step, scope)))
        todo.extend(rows[::-1])
    return None


def wrong_word(tree, wanted, scope, taken, calls):
    """What is wrong with a tree itself, or None."""
    if not has_form(tree, wanted):
        return 'form'
    if tree[0] == 'name' and tree[1] not in scope:
        return 'unknown'
    names = names_bound(tree)
    if any([name in taken for name in names]) or (len(names) == 2 and names[0] == names[1]):
        return 'bound'
    return wrong_call(tree[1], tree[2], scope, calls) if tree[0] == 'call' else None


def wrong_call(name, arguments, scope, calls):
    """What is wrong with a call itself, or None."""
    if name not in calls.counts:
        return 'call'
    if len(arguments) != calls.counts[name]:
        return 'arguments'
    if name == calls.own and standing(arguments[calls.falls], scope) != 'piece':
        return 'piece'
    return None


def inner_scope(tree, step, scope):
    """The scope of the tree directly inside at this path."""
    if not names_bound(tree) or step != path_of_scope(tree):
        return scope
    if tree[0] == 'let':
        return scope_with(scope, tree[1], standing(tree[2], scope))
    if tree[0] == 'fold':
        held = scope_with(scope, tree[1], '')
        return scope_with(held, tree[3], part_standing(tree[4], scope))
    return scope_with(scope, tree[1], part_standing(tree[2], scope))


def scope_with(scope, name, what):
    inner = {other: scope[other] for other in scope}
    inner[name] = what
    return inner


def part_standing(tree, scope):
    """What a part of an expression is."""
    return 'piece' if standing(tree, scope) else ''


def standing(tree, scope):
    """Whether an expression is 'own' or a 'piece' of what falls, or neither: ''."""
    is_part = False
    while has_form(tree, 'expression') and tree[0] in ('part', 'let'):
        if tree[0] == 'part':
            is_part = True
            tree = tree[1]
        else:
            scope = scope_with(scope, tree[1], standing(tree[2], scope))
            tree = tree[3]
    if not has_form(tree, 'expression') or tree[0] != 'name':
        return ''
    found = scope.get(tree[1], '')
    return 'piece' if is_part and found else found
