"""Promises [2] to [4] over the whole program: how things are called, bounds, and what is guaranteed."""

import copy
import unittest

import numberrules
from glances import random_sheet, some_inputs
from manycells import CELLS, cells_sheet, dice, inputs_in, integer_places
from runlore.boxes import Box
from runlore.checker import (
    holds_clause, holds_code, holds_composed, holds_margin, holds_same, holds_table, holds_wish)
from runlore.codes import Code, Machine
from runlore.composing import composed
from runlore.engine import Engine
from runlore.errors import NoPlace, TooBig, TooMany
from runlore.kindsets import Kinds
from runlore.lore import Lore
from runlore.margins import margin
from runlore.preimages import preimage
from runlore.regions import Region
from runlore.rest import rest
from runlore.runner import plain
from runlore.sameness import same
from runlore.sheets import Sheet
from runlore.tables import table
from runlore.treetexts import read_expression as text
from runlore.trees import Book
from runlore.values import Fault
from runlore.watcher import walked, watched
from runlore.wishes import wish

BODY = text('( if ( most ( read x ) 0 ( read y ) ) ( tuple ( read y ) ) ( plus ( read x ) 1 ) )')
SHEET = Sheet(Book(()), ('x', 'y'), (('c', BODY), ('d', text('( tuple ( read c ) ( read x ) )'))))
GIVEN = {'x': 3, 'y': 1}
BOX = Box(2, 1)
ANSWER = ('answer',)
INTEGER = Kinds.of('integer')
GOAL = Region([('kinds', ANSWER, INTEGER), ('tie', ANSWER, None, 2)])
KNOWN = Region([('kinds', ('x',), INTEGER)])


def calls():
    """Calls of what stages 5 and 6 brought, by position and by name; each pair must tell the same."""
    clauses = table(SHEET, 'c', BOX)
    code = Code.of(clauses)
    engine = Engine(SHEET, GIVEN)
    engine.ask('d')
    both = same(SHEET, 'c', SHEET, 'd', BOX)
    return (
        (lambda: preimage(SHEET, 'c', GOAL, BOX), lambda: preimage(sheet=SHEET, cell='c', goal=GOAL, box=BOX, most=400)),
        (lambda: composed(SHEET, 'd', GIVEN), lambda: composed(sheet=SHEET, cell='d', given=GIVEN, most=4096)),
        (lambda: margin(SHEET, 'd', GIVEN, ('x',)), lambda: margin(sheet=SHEET, cell='d', given=GIVEN, place=('x',), most=100)),
        (lambda: wish(SHEET, 'c', GIVEN, GOAL), lambda: wish(sheet=SHEET, cell='c', given=GIVEN, goal=GOAL, most=400)),
        (lambda: rest(SHEET, 'c', KNOWN, BOX), lambda: rest(sheet=SHEET, cell='c', region=KNOWN, box=BOX, most=400)),
        (lambda: Code.of(clauses), lambda: Code.of(clauses=clauses)),
        (lambda: Machine(code, GIVEN.get).run(), lambda: Machine(code=code, ask=GIVEN.get).run()),
        (lambda: Engine(SHEET, GIVEN), lambda: Engine(sheet=SHEET, given=GIVEN)),
        (lambda: engine.ask('d'), lambda: engine.ask(cell='d')),
        (lambda: engine.lore('c'), lambda: engine.lore(cell='c')),
        (lambda: engine.runs(), lambda: engine.runs()),
        (lambda: engine.take_in('c', clauses[:1]), lambda: engine.take_in(cell='c', clauses=clauses[:1])),
        (lambda: engine.in_trial(lambda trial: engine.undo()), lambda: engine.in_trial(work=lambda trial: engine.undo())),
        (lambda: holds_clause(SHEET, 'c', clauses[0]), lambda: holds_clause(sheet=SHEET, cell='c', answer=clauses[0])),
        (lambda: holds_table(SHEET, 'c', BOX, clauses), lambda: holds_table(sheet=SHEET, cell='c', box=BOX, answer=clauses)),
        (lambda: holds_same(SHEET, 'c', SHEET, 'd', BOX, both),
         lambda: holds_same(sheet=SHEET, cell='c', other=SHEET, other_cell='d', box=BOX, answer=both)),
        (lambda: holds_composed(SHEET, 'd', clauses[0]), lambda: holds_composed(sheet=SHEET, cell='d', answer=clauses[0])),
        (lambda: holds_margin(SHEET, 'c', GIVEN, ('x',), 5), lambda: holds_margin(sheet=SHEET, cell='c', given=GIVEN, place=('x',), answer=5)),
        (lambda: holds_wish(SHEET, 'c', GIVEN, GOAL, 5), lambda: holds_wish(sheet=SHEET, cell='c', given=GIVEN, goal=GOAL, answer=5)),
        (lambda: holds_code(clauses, code), lambda: holds_code(clauses=clauses, answer=code)))


class CallTest(unittest.TestCase):
    def test_the_same_call_tells_the_same(self):
        engine = Engine(SHEET, GIVEN)
        engine.take_in('c', table(SHEET, 'c', BOX)[:1])
        for _ in range(2):
            for one, other in calls():
                first = one()
                if first == 1:
                    # Taking in changes the engine: a second time there is nothing to take in.
                    self.assertEqual(other(), 0 if type(first) is int else first)
                    continue
                self.assertEqual(first, other())
                self.assertEqual(first, one())
                self.assertIs(type(first), type(other()))

    def test_arguments_stay(self):
        given = {'x': (1, (2,)), 'y': Fault('bad')}
        before = copy.copy(given)
        composed(SHEET, 'd', given)
        margin(SHEET, 'd', given, ('x', 1, 0))
        wish(SHEET, 'd', given, GOAL)
        engine = Engine(SHEET, {'x': (1, 2)})
        engine.edit_part(('x', 0), 7)
        self.assertEqual(given, before)
        clauses = list(table(SHEET, 'c', BOX))
        same_ones = list(clauses)
        Code.of(clauses)
        engine.take_in('c', clauses)
        holds_code(clauses, Code.of(clauses))
        self.assertEqual(clauses, same_ones)
        answer = wish(SHEET, 'c', GIVEN, GOAL)
        kept = copy.deepcopy(answer)
        self.assertTrue(holds_wish(SHEET, 'c', GIVEN, GOAL, answer))
        self.assertEqual(answer, kept)

    def test_returned_dicts_are_new(self):
        told = wish(SHEET, 'c', GIVEN, Region([('kinds', ANSWER, INTEGER)]))
        self.assertEqual(told, ('move', 0, GIVEN, None))
        told[2].clear()
        self.assertEqual(GIVEN, {'x': 3, 'y': 1})
        lore = Lore(table(SHEET, 'c', BOX))
        code = Code.of(lore)
        for clause in lore.clauses():
            lore.forget(clause)
        self.assertEqual(code, Code.of(table(SHEET, 'c', BOX)))

    def test_later_changes_have_no_effect(self):
        given = {'x': 3, 'y': 1}
        engine = Engine(SHEET, given)
        clause = composed(SHEET, 'd', given)
        given.clear()
        self.assertEqual((engine.given, composed(SHEET, 'd', GIVEN)), (GIVEN, clause))

    def test_the_order_of_keys_means_nothing(self):
        other = {'y': 1, 'x': 3}
        self.assertEqual(composed(SHEET, 'd', other), composed(SHEET, 'd', GIVEN))
        self.assertEqual(margin(SHEET, 'd', other, ('x',)), margin(SHEET, 'd', GIVEN, ('x',)))
        self.assertEqual(wish(SHEET, 'c', other, GOAL), wish(SHEET, 'c', GIVEN, GOAL))
        self.assertEqual(Engine(SHEET, other), Engine(SHEET, GIVEN))

    def test_booleans_are_no_integers(self):
        for given in ({'x': True, 'y': 1}, {'x': (True,), 'y': 1}):
            place = next(iter(integer_places(given)), ('x',))
            with self.assertRaises(NoPlace):
                margin(SHEET, 'c', given, place if len(place) > 1 else ('x',))

    def test_what_tells_whether_something_is_so(self):
        engine = Engine(SHEET, GIVEN)
        clauses = table(SHEET, 'c', BOX)
        machine = Machine(Code.of(clauses), GIVEN.get)
        for told in (engine.undo(), engine == engine, engine == 5, machine.step(), Code.of(clauses) == Code.of(()), holds_clause(SHEET, 'c', 5),
                     holds_table(SHEET, 'c', BOX, clauses), holds_code(clauses, Code.of(clauses)), holds_composed(SHEET, 'c', None),
                     holds_margin(SHEET, 'c', GIVEN, ('x',), ()), holds_wish(SHEET, 'c', GIVEN, GOAL, wish(SHEET, 'c', GIVEN, GOAL)),
                     holds_same(SHEET, 'c', SHEET, 'c', BOX, same(SHEET, 'c', SHEET, 'c', BOX))):
            self.assertIsInstance(told, bool)


class OverviewTest(unittest.TestCase):
    """The example of the overview, through all parts of the program."""

    def test_whole_example(self):
        body = ('if', ('most', ('read', 'a'), 0, ('read', 'b')), ('read', 'b'), ('read', 'a'))
        s = Sheet(Book(()), ('a', 'b'), (('big', body),))
        given = {'a': 3, 'b': 5}
        c = watched(s, 'big', given)
        self.assertEqual((s.answer('big', given), str(c.result), c({'a': -7, 'b': 100})), (5, '@b+0', 100))
        self.assertEqual((composed(s, 'big', given), walked(s, 'big', c.notes)), (c, c))
        t = table(s, 'big', Box(1, 1))
        self.assertEqual((len(t), t[0]), (6, c))
        self.assertEqual(same(s, 'big', s, 'big', Box(1, 1)), ('same', t, t))
        engine = Engine(s, given)
        self.assertEqual((engine.ask('big'), engine.lore('big')), (5, [c]))
        self.assertEqual(margin(s, 'big', given, ('a',))[:2], (None, 5))
        self.assertEqual(margin(s, 'big', given, ('b',))[:2], (3, None))
        low = Region([('kinds', ANSWER, INTEGER), ('tie', ANSWER, None, 3)])
        self.assertEqual(wish(s, 'big', given, low)[:3], ('move', 2, {'a': 3, 'b': 3}))
        self.assertEqual([region.least for region in preimage(s, 'big', low, Box(0, 0))], [{'a': 0, 'b': 0}, {'a': 0, 'b': -1}])
        self.assertEqual(rest(s, 'big', c.region, Box(0, 0)), ('let', 'a', ('read', 'a'), ('let', 'b', ('read', 'b'), ('name', 'b'))))
        self.assertEqual(Machine(Code.of(t), {'a': 3, 'b': 5}.get).run(), ('told', 5))


class BoundTest(unittest.TestCase):
    def test_great_integers(self):
        big = 1000000000
        for x, y in ((big, -big), (-big, big), (big, big), (-big, -big), (big + 2, -big - 2)):
            given = {'x': x, 'y': y}
            clause = composed(SHEET, 'd', given)
            self.assertEqual(clause(given), SHEET.answer('d', given))
            told = margin(SHEET, 'd', given, ('x',))
            self.assertTrue(holds_margin(SHEET, 'd', given, ('x',), told))
            moved = wish(SHEET, 'c', given, GOAL)
            self.assertTrue(holds_wish(SHEET, 'c', given, GOAL, moved))
            self.assertEqual(Engine(SHEET, given).ask('d'), SHEET.answer('d', given))

    def test_a_whole_sheet(self):
        names = ('a', 'b', 'e', 'f', 'g', 'h')
        cells, before = [], 'a'
        for at in range(8):
            name = f'c{"stuvwxyz"[at]}'
            cells.append((name, text(f'( if ( most ( read {before} ) 0 ( read {names[at % 6]} ) ) ( read {names[at % 6]} ) ( plus ( read {before} ) 1 ) )')))
            before = name
        s = Sheet(Book(()), names, tuple(cells))
        given = {name: (7 * at) % 5 for at, name in enumerate(names)}
        engine = Engine(s, given)
        self.assertEqual({name: engine.ask(name) for name, _ in cells}, s.answers(given))
        clause = composed(s, 'cz', given)
        self.assertTrue(given in clause and holds_composed(s, 'cz', clause))
        goal = Region([('kinds', ANSWER, INTEGER), ('tie', ANSWER, None, 0)])
        told = wish(s, 'cz', given, goal)
        self.assertTrue(holds_wish(s, 'cz', given, goal, told))

    def test_values_with_a_thousand_things(self):
        deep = 0
        for _ in range(7):
            deep = (deep,) * 2
        given = {'x': deep, 'y': tuple((at,) * 11 for at in range(12))}
        s = SHEET.rewritten('c', text('( fold n 0 z ( read y ) ( fold m n w z ( if ( most w 0 6 ) ( plus m 1 ) m ) ) )'))
        clause = composed(s, 'c', given)
        self.assertEqual((len(clause.notes), clause(given)), (3 + 12 * 2 + 132 * 2, 77))
        self.assertEqual(margin(s, 'c', given, ('y', 7, 3))[:2], (7, None))
        self.assertEqual(Engine(s, given).ask('d'), (77, deep))

    def test_most_is_kept(self):
        count = SHEET.rewritten('c', text('( fold n 0 z ( read x ) ( plus n 1 ) )'))
        for call, error in (
                (lambda: preimage(count, 'c', GOAL, BOX, most=1), TooMany), (lambda: composed(SHEET, 'd', GIVEN, most=1), TooBig),
                (lambda: margin(SHEET, 'c', GIVEN, ('x',), most=1), TooMany), (lambda: wish(SHEET, 'c', GIVEN, GOAL, most=1), TooMany),
                (lambda: rest(count, 'c', Region(), BOX, most=1), TooMany)):
            with self.assertRaises(error) as caught:
                call()
            self.assertEqual(caught.exception.most, 1)


class GuaranteeTest(unittest.TestCase):
    def test_each_result_passes_the_checker(self):
        for seed in range(40):
            sheet, chance = cells_sheet(seed), dice(seed)
            given = inputs_in(chance, Box(2, 2))
            for cell in CELLS:
                self.assertTrue(holds_composed(sheet, cell, composed(sheet, cell, given)))
                for place in sorted(integer_places(given))[:2]:
                    self.assertTrue(holds_margin(sheet, cell, given, place, margin(sheet, cell, given, place)))
                self.assertTrue(holds_wish(sheet, cell, given, GOAL, wish(sheet, cell, given, GOAL)))
            self.check_rule(random_sheet(seed, 3), Box(seed % 3, seed % 2))

    def check_rule(self, sheet, box):
        for given in some_inputs(1, box, 3):
            self.assertTrue(holds_clause(sheet, 'c', watched(sheet, 'c', given)))
        try:
            clauses = table(sheet, 'c', box, most=80)
        except TooMany:
            return
        self.assertTrue(holds_table(sheet, 'c', box, clauses))
        self.assertTrue(holds_same(sheet, 'c', sheet, 'c', box, same(sheet, 'c', sheet, 'c', box)))
        self.assertTrue(holds_code(clauses, Code.of(clauses)))

    def test_an_engine_that_has_whole_tables_runs_nothing(self):
        for seed in range(40):
            sheet, chance = cells_sheet(seed, 2), dice(seed)
            engine = Engine(sheet, {})
            try:
                for cell in CELLS:
                    clauses = table(sheet, cell, Box(2, 2), most=200)
                    self.assertEqual(engine.take_in(cell, clauses), len(clauses))
            except TooMany:
                continue
            for _ in range(5):
                given = inputs_in(chance, Box(2, 1))
                for name in ('x', 'y'):
                    if name in given:
                        engine.edit(name, given[name])
                    else:
                        engine.clear(name)
                answers = sheet.answers(given)
                if all(Box(2, 2).fits(answer) for answer in answers.values()):
                    runs = len(engine.runs())
                    self.assertEqual({cell: engine.ask(cell) for cell in CELLS}, answers)
                    self.assertEqual(len(engine.runs()), runs)

    def test_a_rest_rule_keeps_what_the_cell_returns(self):
        """A sheet in which a rule is rewritten for what is known ahead still answers the same there."""
        for seed in range(60):
            sheet, chance = numberrules.numbers_sheet(seed, 3), dice(seed)
            given = numberrules.number_inputs(chance, most=2)
            region = Region([('kinds', ('x',), INTEGER), ('kinds', ('t',), Kinds.sized(len(given['t'])))])
            try:
                body = rest(sheet, 'c', region, Box(2, 1))
            except (TooMany, TooBig):
                continue
            other = sheet.rewritten('c', body)
            self.assertEqual(other.answer('c', given), sheet.answer('c', given))
            whole = {**given, **{cell: sheet.answer(cell, given) for cell in 'ab'}, 'c': 0}
            self.assertEqual(plain(sheet.book, body, whole), plain(sheet.book, sheet.body('c'), whole))

    def test_margins_and_composed_clauses_agree(self):
        for seed in range(30):
            sheet, chance = numberrules.numbers_sheet(seed), dice(seed)
            given = numberrules.number_inputs(chance)
            clause = composed(sheet, 'c', given)
            for place, number in integer_places(given).items():
                low, high, pieces = margin(sheet, 'c', given, place)
                self.assertIn(clause, [piece[2] for piece in pieces])
                self.assertTrue((low is None or low <= number) and (high is None or number <= high))


if __name__ == '__main__':
    unittest.main()
