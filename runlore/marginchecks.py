"""Checks of margins: whether pieces are told rightly, and are those of a margin."""

from runlore.clauses import Clause
from runlore.margins import Piece, agree_at, inputs_with, piece_of
from runlore.values import is_integer


def pieces_told(line, number, rows):
    """The pieces that rows (first, last, clause) tell, one behind the other; None if they are told wrongly."""
    pieces = []
    for row in rows:
        if not has_piece_form(row):
            return None
        piece = Piece(*row)
        if not is_piece(line, number, piece) or (pieces and not follows_on(pieces[-1], piece)):
            return None
        pieces.append(piece)
    return pieces


def has_piece_form(row):
    """Whether it is a tuple of two ends and a clause."""
    if not isinstance(row, tuple) or len(row) != 3 or not isinstance(row[2], Clause):
        return False
    return all([end is None or is_integer(end) for end in row[:2]])


def is_piece(line, number, piece):
    """Whether the clause has just those inputs of the line that the ends tell; it has the number if it has all."""
    some = [end for end in (piece.first, piece.last, number) if end is not None][0]
    if inputs_with(line, some) not in piece.clause:
        return False
    right = piece_of(line, piece.clause)
    return right.first == piece.first and right.last == piece.last


def follows_on(piece, other):
    return piece.last is not None and other.first == piece.last + 1


def has_number(piece, number):
    return (piece.first is None or piece.first <= number) and (piece.last is None or number <= piece.last)


def is_margin(line, number, low, high, pieces):
    """Whether the margin around the number has these ends and touches these pieces."""
    homes = [piece for piece in pieces if has_number(piece, number)]
    if not homes or not has_number(Piece(low, high, None), number):
        return False
    home = homes[0]
    if not ends_there(line, home, pieces[0], pieces[0].first, low, -1):
        return False
    if not ends_there(line, home, pieces[-1], pieces[-1].last, high, 1):
        return False
    return all([agree_within(line, home, piece, low, high) for piece in pieces])


def ends_there(line, home, piece, last, end, step):
    """Whether the margin ends there, where the last piece in this direction is just behind it."""
    if end is None:
        return last is None
    behind = end + step
    return has_number(piece, behind) and not agree_at(line, home, piece, behind)


def agree_within(line, home, piece, low, high):
    """Whether the results of two pieces are the same wherever the second one is inside of the margin."""
    numbers = numbers_within(piece, low, high)
    return all([agree_at(line, home, piece, number) for number in numbers])


def numbers_within(piece, low, high):
    """Two integers in a piece and the margin: results that are the same there are the same at all between and beyond.

    There is one if they have only one, and none if they have none.
    """
    firsts = [end for end in (piece.first, low) if end is not None]
    lasts = [end for end in (piece.last, high) if end is not None]
    if not firsts:
        last = min(lasts, default=0)
        return [last - 1, last]
    first = max(firsts)
    last = min(lasts, default=first + 1)
    return [first, last] if first <= last else []
