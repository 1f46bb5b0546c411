"""Sheets: inputs, and cells with rules."""

from runlore.asking import Asking, settle
from runlore.errors import NoBook, NoCell, NoSheet
from runlore.trees import Book, all_trees, look_body
from runlore.values import is_name


class Sheet:
    """A book, names of inputs, and cells: pairs of a name and a body."""

    def __init__(self, book, inputs, cells):
        self.book = book
        self.inputs = tuple(inputs)
        self.cells = tuple(cells)
        self.names = self.inputs + tuple([cell[0] for cell in self.cells])
        check_names(self.names)
        for name, body in self.cells:
            check_cell(book, self.names, name, body)
        for definition in book.definitions:
            check_reads(self.names, definition[0], definition[3])

    def __eq__(self, other):
        if not isinstance(other, Sheet) or self.book != other.book:
            return False
        return self.inputs == other.inputs and self.cells == other.cells

    def body(self, name):
        """The body of a cell."""
        return self.cells[index_of(self.cells, name)][1]

    def rewritten(self, name, body):
        """The sheet in which a cell has another body."""
        at = index_of(self.cells, name)
        return Sheet(self.book, self.inputs, (*self.cells[:at], (name, body), *self.cells[at + 1:]))

    def redefined(self, definition):
        """The sheet in which the definition of this name is another one."""
        definitions = self.book.definitions
        at = index_of(definitions, definition[0])
        book = Book((*definitions[:at], definition, *definitions[at + 1:]))
        return Sheet(book, self.inputs, self.cells)

    def answer(self, cell, given):
        """What a cell returns for these inputs."""
        check_asked(self, cell, given)
        asking = Asking(self, given)
        settle(asking, cell)
        return asking.found[cell]

    def answers(self, given):
        """What each cell returns for these inputs."""
        asking = all_asked(self, given)
        return {name: asking.found[name] for name, _ in self.cells}

    def knots(self, given):
        """All rings of cells that wait for one another, each from its earliest cell on."""
        asking = all_asked(self, given)
        order = {name: at for at, name in enumerate(self.names)}
        rings = []
        for ring in asking.rings:
            starts = [order[name] for name in ring]
            first = starts.index(min(starts))
            rings.append((min(starts), ring[first:] + ring[:first]))
        return tuple([ring for _, ring in sorted(rings)])


def check_names(names):
    for at, name in enumerate(names):
        if not is_name(name):
            raise NoSheet('name', name)
        if name in names[:at]:
            raise NoSheet('twice', name)


def check_cell(book, names, name, body):
    try:
        look_body(book, body, name=name)
    except NoBook as e:
        raise NoSheet(e.word, name) from None
    check_reads(names, name, body)


def check_reads(names, rule, body):
    """A body, of the cell or definition called rule, reads these names only."""
    for tree in all_trees(body):
        if tree[0] == 'read' and tree[1] not in names:
            raise NoSheet('read', rule)


def index_of(pairs, name):
    """The index of the first tuple that begins with the name."""
    for at, pair in enumerate(pairs):
        if pair[0] == name:
            return at
    raise NoCell(name)


def check_inputs(inputs, given):
    """All given names are inputs."""
    for name in sorted(list(given)):
        if name not in inputs:
            raise NoCell(name)


def check_asked(sheet, cell, given):
    """There is such a cell, and all given names are inputs."""
    index_of(sheet.cells, cell)
    check_inputs(sheet.inputs, given)


def all_asked(sheet, given):
    check_inputs(sheet.inputs, given)
    asking = Asking(sheet, given)
    for name, _ in sheet.cells:
        settle(asking, name)
    return asking
