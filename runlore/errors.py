"""The errors of the package. Each keeps its arguments in attributes."""


class LoreError(ValueError):
    """The base class of what is wrong with texts, books, sheets, words, notes and bounds."""


class NoText(LoreError):
    """No text has the word at this index there."""

    def __init__(self, at):
        self.at = at


class NoBook(LoreError):
    """A definition or a body is wrong."""

    def __init__(self, word, name, path):
        self.word = word
        self.name = name
        self.path = path


class NoSheet(LoreError):
    """A sheet is wrong."""

    def __init__(self, word, name):
        self.word = word
        self.name = name


class NoWord(LoreError):
    """The item at this index is no word, or not grounded."""

    def __init__(self, at):
        self.at = at


class NoNote(LoreError):
    """The item at this index is not the note that must stand there."""

    def __init__(self, at):
        self.at = at


class NoInput(LoreError):
    """The inputs are not in the region of the clause."""


class TooMany(LoreError):
    """There are more than so many."""

    def __init__(self, most):
        self.most = most


class TooBig(LoreError):
    """It is bigger than this."""

    def __init__(self, most):
        self.most = most


class NoPlace(KeyError):
    """There is no value at the place."""

    def __init__(self, place):
        self.place = place


class NoCell(KeyError):
    """There is no cell, input or definition of this name."""

    def __init__(self, name):
        self.name = name
