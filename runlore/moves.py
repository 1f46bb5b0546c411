"""Moves: integers of inputs are replaced by others that differ by at most so much.

Ties are triples as regions have them; rows hold all that follows from ties.
"""

from runlore.members import near_integers, number_at, thing_at
from runlore.places import with_part
from runlore.ties import ring_in, rows_with


def least_move(rows, inputs):
    """The least number by which some integers must move to meet the rows."""
    least = 0
    for x in rows:
        for y in rows[x]:
            lack = number_at(inputs, x) - number_at(inputs, y) - rows[x][y]
            # Two places move towards one another, and the number 0 stays where it is.
            movers = 1 if x is None or y is None else 2
            least = max(least, -(-lack // movers))
    return least


def bounds_of(places, inputs, by):
    """The ties that moves by so much meet at places."""
    found = []
    for place in places:
        number = thing_at(inputs, place)
        found.extend([(place, None, number + by), (None, place, by - number)])
    return found


def places_in_ties(ties):
    """The places of ties, in order."""
    ends = {end: True for x, y, _ in ties for end in (x, y) if end is not None}
    return sorted(list(ends))


def moved_inputs(rows, given, by):
    """Inputs that meet the rows, to which a move by this number leads; it leads to some."""
    places = places_in_ties([(x, y, 0) for x in rows for y in rows[x]])
    for x, y, c in bounds_of(places, given, by):
        rows = rows_with(rows, x, y, c)
    chosen = near_integers(rows, {place: thing_at(given, place) for place in places})
    inputs = {name: given[name] for name in given}
    for place in places:
        inputs = with_part(inputs, place, chosen[place])
    return inputs


def ring_against(ties, inputs, by):
    """Some of the ties, and of the bounds of moves by this number (None: of any), that no integers meet together."""
    bounds = [] if by is None else bounds_of(places_in_ties(ties), inputs, by)
    return ring_in(ties + bounds)
