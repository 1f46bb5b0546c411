"""Trials: promise [50]."""

import unittest

from runlore.engine import Engine, Trial
from runlore.errors import NoCell
from runlore.sheets import Sheet
from runlore.treetexts import read_expression as text
from runlore.trees import Book
from runlore.values import Fault
from runlore.watcher import watched

SHEET = Sheet(Book((('f', ('p',), None, ('plus', ('name', 'p'), 1)),)), ('x', 'y'), (
    ('a', ('call', 'f', (('read', 'x'),))), ('b', text('( if ( most ( read a ) 0 ( read y ) ) ( read a ) 0 )'))))


class Stop(Exception):
    pass


def state(engine):
    """All that a trial brings back."""
    return (engine.sheet, engine.given, [engine.lore(cell) for cell in 'ab'], len(engine), engine.depth)


def started():
    engine = Engine(SHEET, {'x': 1, 'y': 5})
    engine.ask('b')
    engine.edit('x', 2)
    return engine


def do_much(engine):
    """Deeds of all sorts, asks, what is forgotten and taken in."""
    engine.edit('y', 0)
    engine.ask('b')
    engine.edit_part(('x',), 7)
    engine.clear('y')
    engine.ask('b')
    engine.rewrite('b', text('( tuple ( read a ) )'))
    engine.redefine(('f', ('p',), None, ('name', 'p')))
    engine.forget()
    engine.take_in('a', (watched(engine.sheet, 'a', {'x': Fault('bad')}),))
    engine.ask('b')


class TrialTest(unittest.TestCase):
    def test_all_is_as_it_was(self):
        engine = started()
        before = state(engine)
        with engine.trial() as trial:
            self.assertIsInstance(trial, Trial)
            self.assertEqual((engine.depth, state(engine)[:4]), (1, before[:4]))
            do_much(engine)
            self.assertNotEqual(state(engine)[:4], before[:4])
            runs = engine.runs()
        self.assertEqual(state(engine), before)
        # What was run stays told.
        self.assertEqual(engine.runs(), runs)
        self.assertEqual((engine.ask('b'), len(engine.runs())), (3, len(runs)))

    def test_kept(self):
        engine, other = started(), started()
        with engine.trial() as trial:
            do_much(engine)
            self.assertIsNone(trial.keep())
            engine.edit('x', 9)
        do_much(other)
        other.edit('x', 9)
        self.assertEqual((state(engine), engine.runs()), (state(other), other.runs()))
        self.assertEqual((engine.depth, len(engine)), (0, 7))
        for _ in range(7):
            self.assertIs(engine.undo(), True)
            self.assertIs(other.undo(), True)
            self.assertEqual(state(engine), state(other))
        self.assertIs(engine.undo(), False)

    def test_keeping_another_trial(self):
        engine = started()
        before = state(engine)
        one, other = engine.trial(), engine.trial()
        other.keep()
        with one:
            engine.edit('x', 5)
        one.keep()
        self.assertEqual(state(engine), before)

    def test_answers_are_as_they_were(self):
        engine = started()
        self.assertEqual(engine.ask('a'), 3)
        engine.forget()
        engine.forget()
        self.assertEqual([engine.lore(cell) for cell in 'ab'], [[], []])
        runs = len(engine.runs())
        with engine.trial():
            engine.edit('x', 4)
            self.assertEqual((engine.ask('a'), len(engine.runs())), (5, runs + 1))
        # The answer of a is kept again, that of b was not asked before.
        self.assertEqual((engine.ask('a'), len(engine.runs())), (3, runs + 1))
        with engine.trial():
            self.assertEqual((engine.ask('b'), len(engine.runs())), (3, runs + 2))
        self.assertEqual((engine.ask('b'), len(engine.runs())), (3, runs + 3))

    def test_uses_are_as_they_were(self):
        engine = started()
        with engine.trial():
            engine.ask('a')
        self.assertEqual([engine.forget()[0], engine.forget()[0], engine.forget()], ['a', 'b', None])
        kept = started()
        with kept.trial() as trial:
            kept.ask('a')
            trial.keep()
        self.assertEqual([kept.forget()[0], kept.forget()[0]], ['b', 'a'])

    def test_what_is_forgotten_comes_back(self):
        engine = started()
        with engine.trial():
            while engine.forget() is not None:
                pass
            self.assertEqual([engine.lore(cell) for cell in 'ab'], [[], []])
        self.assertEqual([len(engine.lore(cell)) for cell in 'ab'], [1, 1])

    def test_errors(self):
        for error in (Stop, NoCell, KeyboardInterrupt, SystemExit):
            engine = started()
            before = state(engine)
            with self.assertRaises(error):
                with engine.trial():
                    do_much(engine)
                    raise error('q')
            self.assertEqual(state(engine), before)
            with self.assertRaises(error):
                with engine.trial() as trial:
                    trial.keep()
                    engine.edit('x', 5)
                    raise error('q')
            self.assertEqual((engine.given, len(engine), engine.depth), ({'x': 5, 'y': 5}, 2, 0))

    def test_an_error_of_the_engine(self):
        engine = started()
        before = state(engine)
        with self.assertRaises(NoCell) as caught:
            with engine.trial():
                engine.edit('x', 3)
                engine.edit('q', 3)
        self.assertEqual((caught.exception.name, state(engine)), ('q', before))

    def test_undo_beyond_the_beginning(self):
        engine = started()
        before = state(engine)
        with engine.trial():
            self.assertIs(engine.undo(), True)
            self.assertEqual((engine.given, len(engine)), ({'x': 1, 'y': 5}, 0))
            self.assertIs(engine.undo(), False)
            engine.edit('y', 7)
        self.assertEqual(state(engine), before)
        self.assertIs(engine.undo(), True)
        self.assertEqual(engine.given, {'x': 1, 'y': 5})
        kept = started()
        with kept.trial() as trial:
            kept.undo()
            trial.keep()
        self.assertEqual((kept.given, len(kept), kept.undo()), ({'x': 1, 'y': 5}, 0, False))

    def test_undo_beyond_a_rewriting(self):
        engine = started()
        clauses = engine.lore('a')
        engine.rewrite('a', ('int', 5))
        before = state(engine)
        with engine.trial():
            engine.undo()
            self.assertEqual(engine.lore('a'), clauses)
        self.assertEqual((state(engine), engine.lore('a')), (before, []))
        engine.undo()
        self.assertEqual(engine.lore('a'), clauses)

    def test_trials_inside_of_one_another(self):
        for outer, inner, given, deeds in (
                (False, False, {'x': 2, 'y': 5}, 1), (False, True, {'x': 2, 'y': 5}, 1), (True, False, {'x': 3, 'y': 5}, 2), (True, True, {'x': 3, 'y': 4}, 3)):
            engine = started()
            with engine.trial() as one:
                engine.edit('x', 3)
                with engine.trial() as other:
                    self.assertEqual(engine.depth, 2)
                    engine.edit('y', 4)
                    if inner:
                        other.keep()
                self.assertEqual((engine.depth, engine.given['y']), (1, 4 if inner else 5))
                if outer:
                    one.keep()
            self.assertEqual((engine.given, len(engine), engine.depth), (given, deeds, 0))

    def test_an_error_through_two_trials(self):
        engine = started()
        before = state(engine)
        with self.assertRaises(Stop):
            with engine.trial():
                engine.edit('x', 3)
                with engine.trial() as other:
                    engine.edit('y', 3)
                    other.keep()
                    raise Stop
        self.assertEqual(state(engine), before)

    def test_keeping_before_or_behind_the_block(self):
        engine = started()
        before = state(engine)
        trial = engine.trial()
        trial.keep()
        with trial:
            engine.edit('x', 5)
        trial.keep()
        self.assertEqual(state(engine), before)

    def test_keeping_the_outer_trial_inside_of_the_inner_one(self):
        engine = started()
        with engine.trial() as one:
            engine.edit('x', 3)
            with engine.trial():
                engine.edit('y', 4)
                one.keep()
        self.assertEqual((engine.given, len(engine)), ({'x': 3, 'y': 5}, 2))

    def test_what_is_done_behind_keeping_stays(self):
        engine = started()
        with engine.trial() as one:
            one.keep()
            engine.edit('x', 3)
            with engine.trial():
                engine.edit('x', 4)
            self.assertEqual((engine.given['x'], engine.depth), (3, 1))
            one.keep()
            engine.edit('y', 6)
            self.assertEqual(engine.ask('a'), 4)
        runs = len(engine.runs())
        self.assertEqual((engine.given, len(engine), engine.depth), ({'x': 3, 'y': 6}, 3, 0))
        self.assertEqual((engine.ask('a'), len(engine.runs())), (4, runs))

    def test_depth(self):
        engine = started()
        for keeps in (False, True):
            for error in (None, Stop):
                for depth in range(5):
                    self.assertEqual(self.depths(engine, depth, keeps, error), list(range(1, depth + 1)))
                    self.assertEqual(engine.depth, 0)

    def depths(self, engine, many, keeps, error):
        """The depths inside of so many trials, which are left by the error if there is one."""
        found = []

        def enter():
            if len(found) < many:
                with engine.trial() as trial:
                    depth = engine.depth
                    found.append(depth)
                    if keeps:
                        trial.keep()
                    enter()
                    self.assertEqual(engine.depth, depth)
            elif error is not None:
                raise error

        if error is None:
            enter()
        else:
            self.assertRaises(error, enter)
        return found

    def test_depth_between_trials(self):
        engine = started()
        with engine.trial():
            for keeps in (True, False, True):
                with engine.trial() as trial:
                    self.assertEqual(engine.depth, 2)
                    if keeps:
                        trial.keep()
                self.assertEqual(engine.depth, 1)
        self.assertEqual(engine.depth, 0)

    def test_a_trial_that_is_not_entered(self):
        engine = started()
        engine.trial()
        engine.trial().keep()
        self.assertEqual(engine.depth, 0)

    def test_what_is_entered_counts_as_it_is_then(self):
        engine = started()
        trial = engine.trial()
        engine.edit('x', 8)
        with trial:
            engine.edit('x', 9)
        self.assertEqual((engine.given['x'], len(engine)), (8, 2))


class InTrialTest(unittest.TestCase):
    def test_work(self):
        engine = started()
        before = state(engine)

        def work(trial):
            self.assertIsInstance(trial, Trial)
            self.assertEqual(engine.depth, 1)
            engine.edit('x', 4)
            return engine.ask('b')

        self.assertEqual(engine.in_trial(work), 5)
        self.assertEqual(engine.in_trial(work=work), 5)
        self.assertEqual(state(engine), before)

    def test_kept_work(self):
        engine = started()

        def work(trial):
            engine.edit('x', 4)
            trial.keep()

        self.assertIsNone(engine.in_trial(work))
        self.assertEqual((engine.given['x'], len(engine)), (4, 2))

    def test_work_inside_of_work(self):
        engine = started()
        before = state(engine)
        self.assertEqual(engine.in_trial(lambda one: engine.in_trial(lambda other: (one is other, engine.depth))), (False, 2))
        self.assertEqual(state(engine), before)

    def test_errors(self):
        engine = started()
        before = state(engine)

        def work(trial):
            do_much(engine)
            raise Stop

        with self.assertRaises(Stop):
            engine.in_trial(work)
        self.assertEqual(state(engine), before)


if __name__ == '__main__':
    unittest.main()
