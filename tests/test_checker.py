"""The checker: promise [51]."""

import unittest

import numberrules
from certificates import is_certificate
from glances import random_sheet, some_inputs
from manycells import CELLS, all_moves, cells_sheet, dice, inputs_in, integer_places
from runlore.boxes import Box
from runlore.checker import (
    holds_clause, holds_code, holds_composed, holds_margin, holds_same, holds_table, holds_wish)
from runlore.clauses import Clause
from runlore.codes import Code
from runlore.composing import composed
from runlore.errors import TooMany
from runlore.lore import Lore
from runlore.margins import margin
from runlore.regions import Region
from runlore.sameness import same
from runlore.sheets import Sheet
from runlore.tables import table
from runlore.terms import Built, Literal, Shifted, Term, Whole
from runlore.treetexts import read_expression as text
from runlore.trees import Book
from runlore.values import Fault
from runlore.watcher import watched
from runlore.wishes import wish
from spoiling import OTHERS, same_sort, spoilt
from test_wishes import ANSWER, FIRST, SECOND, X, Y, at_least, at_most, atom, exactly, integer, meets, pair, random_goal

BOX = Box(2, 1)


def sheet_of(*cells, inputs=('x', 'y')):
    return Sheet(Book(()), inputs, tuple(zip(cells[::2], [text(body) for body in cells[1::2]])))


MIXED = sheet_of('c', (
    "( if ( is integer ( read x ) ) ( if ( most ( read x ) 1 ( read y ) ) ( tuple ( plus ( read x ) 1 ) 1 'red ( read y ) ) 0 ) "
    "( if ( sized ( read x ) 1 ) ( read y ) ( fail bad ) ) )"))
COUNT = sheet_of('c', '( fold n 0 z ( read x ) ( plus n 1 ) )')
MAX = sheet_of('c', '( if ( most ( read x ) 0 ( read y ) ) ( read y ) ( read x ) )')
GIVEN = ({'x': 1, 'y': 2}, {'x': 3, 'y': 2}, {'x': (1,), 'y': ()}, {'x': (), 'y': 5}, {'x': 'a', 'y': 5}, {'x': Fault('read'), 'y': 1})


class CheckerTest(unittest.TestCase):
    def hold(self, check, answer, others=(), right=lambda other: False):
        """The answer passes; whatever is spoilt in one thing does not, unless it is right, too; nor anything of another sort."""
        self.assertIs(check(answer), True)
        for other in spoilt(answer):
            self.assertIs(check(other), right(other), other)
        for other in (*OTHERS, *others):
            self.assertIs(check(other), False, other)


def is_clause_of(sheet, cell, clause):
    """Whether it is the clause of a run for some inputs."""
    if not isinstance(clause, Clause) or not clause.region:
        return False
    given = {**{name: 0 for name in sheet.names}, **clause.region.least}
    return same_sort(watched(sheet, cell, given), clause)


def is_composed_of(sheet, cell, clause):
    """Whether it is the composed clause for some inputs."""
    if not isinstance(clause, Clause) or not clause.region or not {*clause.region.least} <= {*sheet.inputs}:
        return False
    return same_sort(composed(sheet, cell, clause.region.least), clause)


def some_of(things, many):
    """About so many of the things."""
    return things[::max(1, len(things) // many)]


def is_right_wish(sheet, cell, given, goal, answer, other):
    """Whether what was spoilt in one thing still is right: with other rings, or other inputs that meet the goal."""
    if not isinstance(other, tuple) or len(other) != len(answer):
        return False
    if len(answer) == 2:
        return same_sort(other[0], answer[0]) and is_certificate(sheet, cell, given, goal, None, other[1])
    if not same_sort(other[:2], answer[:2]) or not isinstance(other[2], dict) or [*other[2]] != [*given]:
        return False
    rows = [tuple(moved.values()) for moved in all_moves(given, answer[1])]
    if not any(same_sort(tuple(other[2].values()), row) for row in rows) or not meets(sheet, cell, other[2], goal):
        return False
    return other[3] is None if answer[1] == 0 else is_certificate(sheet, cell, given, goal, answer[1] - 1, other[3])


class ClauseTest(CheckerTest):
    def test_right_and_spoilt(self):
        for given in GIVEN:
            self.hold(lambda answer: holds_clause(MIXED, 'c', answer), watched(MIXED, 'c', given),
                      right=lambda other: is_clause_of(MIXED, 'c', other))
        self.assertIs(holds_clause(sheet=MIXED, cell='c', answer=watched(MIXED, 'c', GIVEN[0])), True)

    def test_clauses_of_another_rule(self):
        for sheet in (COUNT, MAX):
            for given in GIVEN[:4]:
                self.assertIs(holds_clause(sheet, 'c', watched(MIXED, 'c', given)), False)

    def test_notes_that_are_too_few_or_too_many(self):
        clause = watched(MAX, 'c', GIVEN[0])
        for many in range(len(clause.notes)):
            self.assertIs(holds_clause(MAX, 'c', Clause(clause.notes[:many], clause.result)), False)
        for note in (('tie', X, None, 5, True), ('tie', X, Y, 0, True), ('read', 'x', True)):
            self.assertIs(holds_clause(MAX, 'c', Clause(clause.notes + (note,), clause.result)), False)

    def test_notes_that_leave_no_member(self):
        s = sheet_of('c', '( if ( most ( read x ) 0 3 ) ( if ( most ( read x ) 0 2 ) 1 2 ) 3 )')
        clause = watched(s, 'c', {'x': 3})
        self.assertIs(holds_clause(s, 'c', clause), True)
        wrong = (*clause.notes[:-2], ('tie', X, None, 3, False), ('tie', X, None, 2, True))
        self.assertIs(holds_clause(s, 'c', Clause(wrong, Literal(1))), False)

    def test_results_that_are_not_written(self):
        s = sheet_of('c', '( if ( sized ( read x ) 1 ) ( read x ) ( read y ) )')
        clause = watched(s, 'c', {'x': (1,), 'y': 2})
        self.assertEqual(clause.result, Built((Whole(('x', 0)),)))
        for result in (Whole(X), Built((Shifted(('x', 0), 0),)), Built([Whole(('x', 0)), Whole(('x', 0))]), Built(())):
            self.assertIs(holds_clause(s, 'c', Clause(clause.notes, result)), False)

    def test_booleans(self):
        one = sheet_of('c', '( tuple 1 0 ( plus ( read x ) 1 ) )')
        clause = watched(one, 'c', {'x': 5})
        for result in (Built((Literal(True), Literal(0), Shifted(X, 1))), Built((Literal(1), Literal(False), Shifted(X, 1))),
                       Built((Literal(1), Literal(0), Shifted(X, True)))):
            self.assertEqual(Clause(clause.notes, result), clause)
            self.assertIs(holds_clause(one, 'c', Clause(clause.notes, result)), False)

    def test_faults_of_one_word(self):
        clause = watched(COUNT, 'c', {'x': 5})
        self.assertIs(holds_clause(COUNT, 'c', Clause(clause.notes, Fault('kind', 'q', (5, True)))), True)


class TableTest(CheckerTest):
    def test_right_and_spoilt(self):
        for sheet, box in ((COUNT, BOX), (COUNT, Box(1, 0)), (MAX, Box(0, 0)), (MIXED, BOX), (sheet_of('c', '5'), BOX), (sheet_of('c', '( fail bad )'), BOX)):
            self.hold(lambda answer: holds_table(sheet, 'c', box, answer), table(sheet, 'c', box))
        self.assertIs(holds_table(sheet=MAX, cell='c', box=BOX, answer=table(MAX, 'c', BOX)), True)

    def test_tables_of_other_boxes(self):
        for box in (Box(1, 1), Box(3, 1), Box(2, 0)):
            self.assertIs(holds_table(COUNT, 'c', BOX, table(COUNT, 'c', box)), False)
        self.assertIs(holds_table(MAX, 'c', Box(1, 1), table(MAX, 'c', Box(4, 4))), True)

    def test_other_orders(self):
        right = table(MIXED, 'c', BOX)
        self.assertIs(holds_table(MIXED, 'c', BOX, right[::-1]), False)
        self.assertIs(holds_table(MIXED, 'c', BOX, right[1:] + right[:1]), False)
        self.assertIs(holds_table(MIXED, 'c', BOX, tuple(Lore(right[::-1]).clauses())), True)

    def test_more_clauses_than_four_hundred(self):
        pairs = sheet_of('c', '( fold n 0 z ( read x ) ( fold m n w ( read y ) ( if ( most z 0 w ) ( plus m 1 ) m ) ) )')
        right = table(pairs, 'c', Box(3, 1), most=508)
        self.assertIs(holds_table(pairs, 'c', Box(3, 1), right), True)
        self.assertIs(holds_table(pairs, 'c', Box(3, 1), right[:200] + right[201:]), False)

    def test_a_table_within_a_region(self):
        region = Region(watched(COUNT, 'c', {'x': ()}).region.words)
        self.assertIs(holds_table(COUNT, 'c', BOX, table(COUNT, 'c', BOX, region=region)), False)


class SameTest(CheckerTest):
    def test_right_and_spoilt(self):
        other = sheet_of('c', '( if ( most ( read y ) -1 ( read x ) ) ( if ( most ( read y ) 0 ( read x ) ) ( read x ) ( read y ) ) ( read y ) )')
        right = same(MAX, 'c', other, 'c', Box(0, 0))
        # Both read other names first, and so they part where one of them is no integer.
        self.assertEqual(right[0], 'same')
        self.hold(lambda answer: holds_same(MAX, 'c', other, 'c', Box(0, 0), answer), right)

    def test_parted(self):
        three = sheet_of('c', '( if ( is tuple ( read x ) ) 3 ( fail kind ) )')
        right = same(COUNT, 'c', three, 'c', BOX)
        self.assertEqual(right[:2], ('parted', {'x': ()}))
        check = lambda answer: holds_same(COUNT, 'c', three, 'c', BOX, answer)
        self.hold(check, right, [('same', table(COUNT, 'c', BOX), table(three, 'c', BOX))])
        word, inputs, first, second = right
        # Any other inputs at which the rules do not agree are right, too.
        clause = watched(COUNT, 'c', {'x': (1,)})
        for given, one, told in (({'x': (5,)}, clause, True), ({'x': ('a',)}, clause, True), ({'x': (5, 5)}, clause, False), ({'x': 5}, clause, False),
                                 ({'x': ()}, clause, False), ({'x': ((),)}, clause, False), ({}, clause, False), ({'x': (True,)}, clause, False),
                                 ({'x': (), 'y': 5}, first, True), ({'x': (), 'y': Fault('bad')}, first, True), ({'x': (), 'y': ((),)}, first, False),
                                 ({'x': (), 'y': None}, first, False), ({'x': (), 'y': True}, first, False), ({'x': [], 'y': 1}, first, False)):
            self.assertIs(check((word, given, one, second)), told, given)
        self.assertIs(check((word, inputs, second, first)), False)

    def test_parted_where_they_agree(self):
        least = sheet_of('c', '( if ( most ( read x ) 0 ( read y ) ) ( read x ) ( read y ) )')
        self.assertEqual(same(MAX, 'c', least, 'c', Box(0, 0))[0], 'parted')
        for given, told in (({'x': 3, 'y': 3}, False), ({'x': 3, 'y': 4}, True), ({'x': 4, 'y': 3}, True), ({'x': 'a', 'y': 3}, False)):
            answer = ('parted', given, watched(MAX, 'c', given), watched(least, 'c', given))
            self.assertIs(holds_same(MAX, 'c', least, 'c', Box(0, 0), answer), told)

    def test_same_where_they_part(self):
        for box, told in ((BOX, True), (Box(3, 1), False)):
            two = sheet_of('c', '( if ( sized ( read x ) 0 ) 0 ( if ( sized ( read x ) 1 ) 1 2 ) )')
            answer = ('same', table(COUNT, 'c', box), table(two, 'c', box))
            self.assertIs(holds_same(sheet=COUNT, cell='c', other=two, other_cell='c', box=box, answer=answer), told)

    def test_cells_of_one_sheet(self):
        s = sheet_of('c', '( plus ( plus ( read x ) 1 ) 1 )', 'd', '( plus ( read x ) 2 )', 'e', '( plus ( read y ) 2 )')
        self.assertIs(holds_same(s, 'c', s, 'd', BOX, same(s, 'c', s, 'd', BOX)), True)
        self.assertIs(holds_same(s, 'c', s, 'e', BOX, same(s, 'c', s, 'e', BOX)), True)
        self.assertIs(holds_same(s, 'c', s, 'e', BOX, same(s, 'c', s, 'd', BOX)), False)


class ComposedTest(CheckerTest):
    CELLS = sheet_of('b', '( tuple ( plus ( read x ) 1 ) 1 ( read y ) )', 'c', '( if ( most ( part ( read b ) 0 ) 3 ( part ( read b ) 2 ) ) ( read b ) ( read c ) )',
                     'd', '( read c )')

    def test_right_and_spoilt(self):
        for cell in 'bcd':
            for given in ({'x': 1, 'y': 9}, {'x': 1, 'y': 1}, {'x': 1}, {'y': 1}, {'x': 'a', 'y': 1}):
                self.hold(lambda answer: holds_composed(self.CELLS, cell, answer), composed(self.CELLS, cell, given),
                          right=lambda other: is_composed_of(self.CELLS, cell, other))
        self.assertIs(holds_composed(sheet=self.CELLS, cell='b', answer=composed(self.CELLS, 'b', {})), True)

    def test_clauses_about_cells(self):
        self.assertIs(holds_composed(self.CELLS, 'd', watched(self.CELLS, 'd', {'c': 1})), False)
        self.assertIs(holds_composed(self.CELLS, 'd', composed(self.CELLS, 'c', {'x': 1, 'y': 1})), False)

    def test_results_of_any_weight(self):
        seven = '( tuple ' + ' '.join(['( read {} )'] * 7) + ' )'
        cells = ['a', '( tuple 1 2 3 4 5 6 7 )']
        for name, other in zip('bdefghi', 'abdefgh'):
            cells += [name, seven.format(*[other] * 7)]
        s = sheet_of(*cells)
        heavy = composed(s, 'e', {}, most=10000)
        self.assertEqual(heavy.result.weight, 2801)
        self.assertIs(holds_composed(s, 'e', heavy), True)
        # The result of the last cell has a weight of millions; a clause that is told of it is wrong at once.
        for result in (heavy.result, Literal(1), Fault('long'), Term(), None, Built(())):
            self.assertIs(holds_composed(s, 'i', Clause((), result)), False)

    def test_random_rules(self):
        for seed in range(30):
            sheet, chance = cells_sheet(seed), dice(seed)
            for cell in CELLS:
                clause = composed(sheet, cell, inputs_in(chance, Box(2, 2)))
                self.assertIs(holds_composed(sheet, cell, clause), True)
                for other in spoilt(clause)[::7]:
                    self.assertIs(holds_composed(sheet, cell, other), is_composed_of(sheet, cell, other))


class MarginTest(CheckerTest):
    def test_right_and_spoilt(self):
        steps = sheet_of('c', '( if ( most ( read x ) 0 0 ) 5 ( if ( most ( read x ) 0 5 ) ( read x ) ( if ( most ( read x ) 0 9 ) 5 ( fail bad ) ) ) )')
        for x in (-3, 0, 1, 3, 5, 7, 12):
            given = {'x': x}
            self.hold(lambda answer: holds_margin(steps, 'c', given, X, answer), margin(steps, 'c', given, X))
        for sheet, given, place in ((MAX, {'x': 1, 'y': 5}, Y), (sheet_of('c', '5'), {'x': 1}, X), (MAX, {'x': 5, 'y': 5}, X),
                                    (sheet_of('c', '( tuple ( read x ) ( read y ) )'), {'x': (1, 0), 'y': 3}, ('x', 1)),
                                    (sheet_of('c', '( if ( most ( read x ) 0 1 ) ( read d ) 1 )', 'd', '( if ( most ( read x ) 0 0 ) ( read c ) 0 )'), {'x': 0}, X)):
            self.hold(lambda answer: holds_margin(sheet, 'c', given, place, answer), margin(sheet, 'c', given, place))
        self.assertIs(holds_margin(sheet=MAX, cell='c', given=GIVEN[0], place=X, answer=margin(MAX, 'c', GIVEN[0], X)), True)

    def test_margins_that_are_too_small_or_too_great(self):
        s = sheet_of('c', '( if ( most ( read x ) 0 4 ) 5 ( read x ) )')
        low, high, pieces = margin(s, 'c', {'x': 1}, X)
        self.assertEqual((low, high), (None, 5))
        for ends in ((None, 4), (None, 6), (1, 5), (0, 5), (None, None), (1, 1)):
            self.assertIs(holds_margin(s, 'c', {'x': 1}, X, (*ends, pieces)), False)
            self.assertIs(holds_margin(s, 'c', {'x': 1}, X, (*ends, pieces[:1])), False)
        self.assertIs(holds_margin(s, 'c', {'x': 7}, X, (low, high, pieces)), False)

    def test_random_rules(self):
        for seed in range(7):
            sheet, chance = numberrules.numbers_sheet(seed), dice(seed)
            given = numberrules.number_inputs(chance, most=1)
            for place in integer_places(given):
                answer = margin(sheet, 'c', given, place)
                self.assertIs(holds_margin(sheet, 'c', given, place, answer), True)
                for other in some_of(spoilt(answer), 15):
                    self.assertIs(holds_margin(sheet, 'c', given, place, other), False)


class WishTest(CheckerTest):
    WAY = sheet_of('c', "( if ( most ( read x ) 0 ( read y ) ) 'up 'down )")

    def check(self, sheet, given, goal, cell='c'):
        """What `wish` tells passes, and nothing that is spoilt in one thing."""
        answer = wish(sheet, cell, given, goal)
        self.hold(lambda other: holds_wish(sheet, cell, given, goal, other), answer,
                  right=lambda other: is_right_wish(sheet, cell, given, goal, answer, other))
        return answer

    def test_right_and_spoilt(self):
        for x in (3, 1, -1):
            self.check(self.WAY, {'x': x, 'y': 1}, atom('up'))
        self.assertEqual(self.check(MAX, {'x': 3, 'y': 5}, exactly(8))[:2], ('move', 3))
        self.assertEqual(self.check(MAX, {'x': 1, 'y': 0}, at_most(0))[:2], ('move', 1))
        self.assertEqual(self.check(sheet_of('c', '1'), {'x': 1}, at_least(3)), ('none', ('cycle', ((None, None, -2),))))
        self.check(sheet_of('c', '( fail bad )'), {'x': 1}, at_least(3))
        self.check(sheet_of('c', "( tuple 1 'a )"), {'x': 1}, pair())
        self.check(sheet_of('c', '( tuple ( read x ) ( plus ( read x ) 1 ) )'), {'x': 3}, pair((SECOND, FIRST, 0)))
        self.check(sheet_of('c', '( if ( most ( read x ) 0 3 ) ( read d ) 1 )', 'd', '( if ( most 5 0 ( read x ) ) 1 ( read c ) )'), {'x': 3}, integer())
        self.check(sheet_of('c', '( if ( most ( read x ) 0 3 ) ( read y ) 1 )'), {'x': 5}, at_least(3))
        self.assertIs(holds_wish(sheet=MAX, cell='c', given=GIVEN[0], goal=exactly(2), answer=('move', 0, GIVEN[0], None)), True)

    def test_other_inputs(self):
        given, goal = {'x': 3, 'y': 0}, atom('up')
        word, by, inputs, bars = wish(self.WAY, 'c', given, goal)
        self.assertEqual(by, 2)
        for moved, told in (({'x': 1, 'y': 2}, True), ({'x': 1, 'y': 1}, True), ({'x': 2, 'y': 2}, True), ({'x': 3, 'y': 2}, False), ({'x': 0, 'y': 2}, False),
                            ({'x': 1, 'y': 3}, False), ({'x': True, 'y': 2}, False), ({'x': 1}, False), ({'x': 1, 'y': 2, 'z': 3}, False),
                            ({'x': 1, 'y': 'a'}, False), ({'x': 1, 'y': (2,)}, False), ({'y': 2, 'x': 1}, True)):
            self.assertIs(holds_wish(self.WAY, 'c', given, goal, (word, by, moved, bars)), told, moved)

    def test_what_is_no_integer_stays(self):
        s = sheet_of('c', "( part ( read x ) 0 )")
        given = {'x': (1, 'a', (2,)), 'y': Fault('bad')}
        for x, y, told in (((3, 'a', (2,)), Fault('bad'), True), ((3, 'b', (2,)), Fault('bad'), False), ((3, 'a', (2, 2)), Fault('bad'), False),
                           ((3, 'a', 2), Fault('bad'), False), ((3, 'a', (4,)), Fault('bad'), True), ((3, 'a', (5,)), Fault('bad'), False),
                           ((3, 'a', (2,)), Fault('read'), False), ((3, 'a', (2,)), 5, False), ([3, 'a', (2,)], Fault('bad'), False)):
            answer = ('move', 2, {'x': x, 'y': y}, wish(s, 'c', given, exactly(3))[3])
            self.assertIs(holds_wish(s, 'c', given, exactly(3), answer), told)

    def test_greater_and_lesser_numbers(self):
        given, goal = {'x': 5, 'y': 0}, at_most(2)
        s = sheet_of('c', '( read x )')
        word, by, inputs, bars = wish(s, 'c', given, goal)
        self.assertEqual((by, bars), (3, ('cycle', bars[1])))
        self.assertIs(holds_wish(s, 'c', given, goal, ('move', 3, {'x': 2, 'y': 0}, bars)), True)
        for answer in (('move', 4, {'x': 1, 'y': 0}, bars), ('move', 2, {'x': 3, 'y': 0}, bars), ('move', 4, {'x': 2, 'y': 0}, bars),
                       ('move', 3, {'x': 2, 'y': 0}, None), ('none', bars), ('move', -1, given, None)):
            self.assertIs(holds_wish(s, 'c', given, goal, answer), False)
        # With the bounds of a move by 3 no ring is against it.
        greater = ('cycle', ((X, None, 2), (None, X, -2)))
        self.assertIs(holds_wish(s, 'c', given, goal, ('move', 4, {'x': 1, 'y': 0}, greater)), False)

    def test_other_certificates(self):
        """Rings may begin anywhere and be longer than they must; what bounds are against may be followed to the end."""
        given, goal = {'x': 3, 'y': 1}, atom('up')
        word, by, inputs, bars = wish(self.WAY, 'c', given, goal)
        tie, ring = bars[:4], ((X, Y, 0), (Y, None, 1), (None, X, -3))

        def holds(yes, no=('unlike', ANSWER)):
            return holds_wish(self.WAY, 'c', given, goal, (word, by, inputs, (*tie, yes, no)))

        for at in range(3):
            self.assertIs(holds(('cycle', ring[at:] + ring[:at])), True)
            self.assertIs(holds(('cycle', (ring[at:] + ring[:at]) * 2)), True)
            self.assertIs(holds(('cycle', ring[:at] + ring[at + 1:])), False)
        self.assertIs(holds(('cycle', ((X, Y, 0), (Y, None, 1), (None, Y, -1), (Y, None, 1), (None, X, -3)))), True)
        for wrong in (('cycle', ()), ('cycle', ((X, Y, -1), *ring[1:])), ('cycle', ((X, Y, 0), (Y, None, 2), (None, X, -3))), ('cycle', list(ring)),
                      ('cycle', (list(ring[0]), *ring[1:])), ('cycle',), ('cycle', ring, ring), ('unlike', ANSWER), ('fault', 'kind'), (*tie, ring, ring), None, ()):
            self.assertIs(holds(wrong), False)
        lost = sheet_of('c', '( if ( most ( read x ) 0 ( read y ) ) ( fail bad ) 1 )')
        for yes, told in ((('fault', 'bad'), True), (('cycle', ring), True), (('fault', 'kind'), False), (('unlike', ANSWER), False)):
            answer = ('move', 4, {'x': 7, 'y': 1}, ('tie', X, Y, 0, yes, ('cycle', ((None, None, -1),))))
            self.assertIs(holds_wish(lost, 'c', {'x': 3, 'y': 1}, exactly(2), answer), False)
            self.assertIs(holds_wish(lost, 'c', {'x': 3, 'y': 1}, exactly(2), ('none', ('tie', X, Y, 0, yes, ('cycle', ((None, None, -1),))))),
                          told and yes[0] == 'fault')

    def test_rings_without_bounds(self):
        """Where nothing at all is told to help, bounds are none of the ties."""
        s = sheet_of('c', '( if ( most ( read x ) 0 3 ) 1 2 )')
        low, high = ('cycle', ((None, None, -2),)), ('cycle', ((None, None, -1),))
        self.assertIs(holds_wish(s, 'c', {'x': 9}, at_least(3), ('none', ('tie', X, None, 3, low, high))), True)
        bound = ('cycle', ((X, None, 3), (None, X, -9)))
        self.assertIs(holds_wish(s, 'c', {'x': 9}, at_least(3), ('none', ('tie', X, None, 3, bound, high))), False)

    def test_the_first_word_that_is_not_met(self):
        s = sheet_of('c', "( tuple 1 'a )")
        words = [('kinds', ANSWER, pair().kinds(ANSWER)), ('kinds', FIRST, atom('a').kinds(ANSWER)), ('kinds', SECOND, integer().kinds(ANSWER))]
        for place, told in ((FIRST, True), (SECOND, False), (ANSWER, False)):
            self.assertIs(holds_wish(s, 'c', {}, Region(words), ('none', ('unlike', place))), told)

    def test_random_rules(self):
        words = {}
        for seed in range(35):
            sheet, chance = numberrules.numbers_sheet(seed), dice(seed)
            given = numberrules.number_inputs(chance, most=1)
            goal = random_goal(chance, sheet.answer('c', given))
            try:
                answer = wish(sheet, 'c', given, goal)
            except TooMany:
                continue
            words[answer[0]] = words.get(answer[0], 0) + 1
            self.assertIs(holds_wish(sheet, 'c', given, goal, answer), True)
            for other in some_of(spoilt(answer), 12):
                self.assertIs(holds_wish(sheet, 'c', given, goal, other), is_right_wish(sheet, 'c', given, goal, answer, other), (seed, other))
        self.assertGreater(min(words.values()), 5)


class CodeTest(CheckerTest):
    def test_right_and_spoilt(self):
        for clauses in ((), table(COUNT, 'c', BOX), table(MIXED, 'c', BOX)[::2], Lore(table(MAX, 'c', BOX)), list(table(MAX, 'c', BOX))[::-1],
                        (watched(sheet_of('c', '5'), 'c', {}),), (watched(sheet_of('c', '( fail bad )'), 'c', {}),)):
            self.hold(lambda answer: holds_code(clauses, answer), Code.of(clauses), [Code.of(table(COUNT, 'c', Box(1, 1)))])
        self.assertIs(holds_code(clauses=(), answer=Code.of(())), True)

    def test_code_of_other_clauses(self):
        right = table(COUNT, 'c', BOX)
        for other in (right[1:], right[:-1], (), table(MAX, 'c', BOX)):
            self.assertIs(holds_code(right, Code.of(other)), False)
        self.assertIs(holds_code(right, Code.of(right[::-1])), True)


class AllTest(unittest.TestCase):
    """Whatever the functions return passes, and what they return for something else does not."""

    def test_rules_without_cells(self):
        counts = {True: 0, False: 0}
        for seed in range(60):
            sheet, other, box = random_sheet(seed, 3), random_sheet(seed + 1, 3), Box(seed % 3, 1 + seed % 2)
            for given in some_inputs(seed, box, 5):
                clause = watched(sheet, 'c', given)
                self.assertIs(holds_clause(sheet, 'c', clause), True)
                told = holds_clause(other, 'c', clause)
                self.assertIs(told, watched(other, 'c', given) == clause)
                counts[told] += 1
            try:
                one, two, both = table(sheet, 'c', box, most=100), table(other, 'c', box, most=100), same(sheet, 'c', other, 'c', box, most=100)
            except TooMany:
                continue
            self.assertIs(holds_table(sheet, 'c', box, one), True)
            self.assertIs(holds_table(sheet, 'c', box, two), one == two)
            self.assertIs(holds_same(sheet, 'c', other, 'c', box, both), True)
            self.assertIs(holds_same(sheet, 'c', other, 'c', box, ('same', one, two)), both[0] == 'same')
        self.assertGreater(min(counts.values()), 3)


if __name__ == '__main__':
    unittest.main()
