"""Books of definitions."""

from runlore.errors import NoCell


class Book:
    """Definitions (name, parameters, falls, body), found by their names."""

    def __init__(self, definitions):
        self.definitions = tuple(definitions)

    def __len__(self):
        return len(self.definitions)

    def __getitem__(self, name):
        for definition in self.definitions:
            if definition[0] == name:
                return definition
        raise NoCell(name)

    def __iter__(self):
        raise TypeError("a book is asked by names")

    def __eq__(self, other):
        return isinstance(other, Book) and self.definitions == other.definitions
