"""Ties: how great the difference of two integers may be.

Rows are a dict from x to a dict from y to the greatest value of x minus y,
where x and y are places or None for the number 0. They hold all bounds that
follow from one another, and never change.
"""


def bound_of(rows, x, y):
    """The greatest value of x minus y, or None if there is none."""
    if x == y:
        return 0
    return rows[x].get(y) if x in rows else None


def triples_of(rows):
    """All bounds as triples (x, y, c)."""
    return [(x, y, rows[x][y]) for x in rows for y in rows[x]]


def is_against(rows, x, y, c):
    """Whether x minus y is never at most c."""
    back = bound_of(rows, y, x)
    return back is not None and back + c < 0


def is_less(number, bound):
    return bound is None or number < bound


def rows_with(rows, x, y, c):
    """Rows in which x minus y is at most c, too. The rows are not against it."""
    if not is_less(c, bound_of(rows, x, y)):
        return rows
    ends = [(y, c)] + ([(v, c + rows[y][v]) for v in rows[y]] if y in rows else [])
    ends = [(v, far) for v, far in ends if is_less(far, bound_of(rows, x, v))]
    starts = [(x, 0)] + [(u, rows[u][x]) for u in rows if x in rows[u]]
    new = {}
    for u in rows:
        new[u] = rows[u]
    for u, far in starts:
        # Where the way to y does not get shorter, no way on from y does.
        if is_less(far + c, bound_of(rows, u, y)):
            new[u] = longer_row(rows, u, far, ends)
    return new


def longer_row(rows, u, far, ends):
    row = {}
    if u in rows:
        for v in rows[u]:
            row[v] = rows[u][v]
    for v, more in ends:
        if v != u and is_less(far + more, row.get(v)):
            row[v] = far + more
    return row


def ring_in(triples):
    """Some of the triples, in a ring, whose numbers add up to less than 0; there are such."""
    far = {}
    before = {}
    for x, y, _ in triples:
        far[x] = 0
        far[y] = 0
    last = None
    for _ in range(len(far)):
        last = None
        for triple in triples:
            x, y, c = triple
            if far[x] + c < far[y]:
                far[y] = far[x] + c
                before[y] = triple
                last = triple
    # What still got nearer in the last round hangs on a ring: so many steps back lead into it.
    for _ in range(len(far)):
        last = before[last[0]]
    ring = [last]
    while ring[-1][0] != last[1]:
        ring.append(before[ring[-1][0]])
    return tuple(ring[::-1])
