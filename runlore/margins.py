"""Margins: how far one integer of the inputs may move."""

from runlore.courses import course_result, followed, whole_inputs
from runlore.errors import NoPlace, TooMany
from runlore.members import number_at
from runlore.places import value_at, with_part
from runlore.sheets import check_asked
from runlore.values import Fault, is_integer
from runlore.watcher import clause_of


class Line:
    """The inputs that have any integer at a place."""

    def __init__(self, sheet, cell, given, place):
        self.sheet = sheet
        self.cell = cell
        self.inputs = whole_inputs(sheet, given)
        self.place = place


class Piece:
    """All integers with one composed clause: the first and the last one, None where there is none."""

    def __init__(self, first, last, clause):
        self.first = first
        self.last = last
        self.clause = clause


def margin(sheet, cell, given, place, *, most=100):
    """The ends of the margin around the integer at the place, and the pieces that it touches."""
    check_asked(sheet, cell, given)
    value = moving_integer(given, place)
    line = Line(sheet, cell, given, place)
    home = piece_at(line, value)
    high, above = outward(line, home, 1, 1, most)
    low, below = outward(line, home, -1, 1 + len(above), most)
    pieces = (*below[::-1], home, *above)
    return low, high, tuple([(piece.first, piece.last, piece.clause) for piece in pieces])


def moving_integer(given, place):
    """The integer at a place."""
    value = value_at(given, place)
    if not is_integer(value):
        raise NoPlace(place)
    return value


def inputs_with(line, number):
    """The inputs of the line that have this number."""
    return with_part(line.inputs, line.place, number)


def piece_at(line, number):
    """The piece that has the number."""
    inputs = inputs_with(line, number)
    course = followed(line.sheet, line.cell, inputs)
    return piece_of(line, clause_of(course.view, course_result(course)))


def piece_of(line, clause):
    """The piece of a clause whose region has inputs of the line."""
    rows = clause.region.known.rows
    place = line.place
    firsts = [number_at(line.inputs, x) - rows[x][place] for x in rows if place in rows[x]]
    lasts = []
    if place in rows:
        lasts = [number_at(line.inputs, y) + rows[place][y] for y in rows[place]]
    return Piece(max(firsts, default=None), min(lasts, default=None), clause)


def edge(piece, step):
    """The end of a piece in a direction, 1 or -1."""
    return piece.last if step == 1 else piece.first


def result_at(line, clause, number):
    """What the result of a clause tells for a number, whether it is in the piece of the clause or not."""
    if isinstance(clause.result, Fault):
        return clause.result
    return clause.result(inputs_with(line, number))


def agree_at(line, piece, other, number):
    """Whether the results of the clauses of two pieces are the same at a number."""
    return result_at(line, piece.clause, number) == result_at(line, other.clause, number)


def outward(line, home, step, many, most):
    """The end of the margin in a direction, and the pieces that it touches beyond the first one.

    Raises TooMany where these and the many that are known are more than most.
    """
    found = []
    end = edge(home, step)
    while end is not None and (not found or end == edge(found[-1], step)):
        if many + len(found) == most:
            raise TooMany(most)
        found.append(piece_at(line, end + step))
        end = end_within(line, home, found[-1], end + step, step)
    return end, found


def end_within(line, home, piece, number, step):
    """The last integer of the margin, which has all before this number, the first one of a piece.

    Each integer in a result is fixed, or moves with the number. So results that are the same
    at two numbers are the same at all.
    """
    if not agree_at(line, home, piece, number):
        return number - step
    return edge(piece, step) if agree_at(line, home, piece, number + step) else number
