"""Lore: promise [35]."""

import random
import unittest

from glances import logged, random_sheet, some_inputs
from runlore.boxes import Box
from runlore.clauses import Clause
from runlore.errors import NoNote
from runlore.lore import Lore
from runlore.sheets import Sheet
from runlore.terms import Literal, Shifted, Whole
from runlore.treetexts import read_expression as text
from runlore.trees import Book
from runlore.values import Fault
from runlore.watcher import watched

X = ('x',)
READ = ('read', 'x', True)
TUPLE = ('kind', X, 'tuple', True)
RULE = text("( if ( is tuple ( read x ) ) ( if ( sized ( read x ) 1 ) 'one ( each z ( read x ) ( plus z 1 ) ) ) "
            '( plus ( read x ) 1 ) )')
SHEET = Sheet(Book(()), ('x',), (('c', RULE),))


def clause_at(x):
    return watched(SHEET, 'c', {'x': x})


# In the order of the tree.
VALUES = ((9,), (), (1, 2), (1, 'a'), ('a', 1), 5, 'a', Fault('bad'))
CLAUSES = [clause_at(x) for x in VALUES]


def learn_error(lore, clause):
    before = lore.clauses()
    try:
        lore.learn(clause)
    except NoNote as e:
        assert lore.clauses() == before
        return e.at
    return None


class LoreTest(unittest.TestCase):
    def test_empty(self):
        lore = Lore()
        self.assertEqual((len(lore), lore.clauses(), lore.walk({})), (0, [], ((), None)))
        self.assertEqual(lore.walk({'x': 5}), ((), None))
        self.assertIs(CLAUSES[0] in lore, False)
        self.assertIs(lore.forget(CLAUSES[0]), False)
        self.assertEqual(lore, Lore([]))

    def test_learn(self):
        lore = Lore()
        for at, clause in enumerate(CLAUSES):
            self.assertIs(clause in lore, False)
            self.assertIs(lore.learn(clause), True)
            self.assertIs(clause in lore, True)
            self.assertEqual(len(lore), at + 1)
        for x in VALUES:
            self.assertIs(lore.learn(clause=clause_at(x)), False)
        self.assertEqual(len(lore), len(CLAUSES))
        self.assertEqual(lore, Lore(clauses=tuple(CLAUSES)))

    def test_order(self):
        for seed in range(20):
            clauses = list(CLAUSES)
            random.Random(seed).shuffle(clauses)
            lore = Lore(clauses)
            self.assertEqual(lore.clauses(), CLAUSES)
            self.assertEqual(lore, Lore(CLAUSES))
        self.assertEqual(Lore(CLAUSES[2:5][::-1]).clauses(), CLAUSES[2:5])

    def test_sizes_ascend(self):
        s = Sheet(Book(()), ('x',), (('c', text('( each z ( read x ) 1 )')),))
        clauses = [watched(s, 'c', {'x': (0,) * k}) for k in (11, 2, 10, 0, 1)]
        self.assertEqual([clause.notes[-1][2] for clause in Lore(clauses).clauses()], [0, 1, 2, 10, 11])

    def test_walk(self):
        lore = Lore(CLAUSES)
        for x, clause in zip(VALUES, CLAUSES):
            self.assertEqual(lore.walk({'x': x, 'more': 1}), (clause.notes, clause))
        self.assertEqual(lore.walk(inputs={'x': (7, 7)}), (CLAUSES[2].notes, CLAUSES[2]))
        notes, clause = lore.walk({'x': (1, 2, 3)})
        self.assertEqual(notes, (READ, TUPLE, ('sized', X, 1, False), ('size', X, 3)))
        self.assertIsNone(clause)

    def test_walk_ends_at_the_first_outcome_that_is_lacking(self):
        for keep, x, notes in (
                ([0], 5, (READ, ('kind', X, 'tuple', False))), ([0], Fault('q'), (('read', 'x', False),)),
                ([7], 5, (READ,)), ([5], 'a', (READ, ('kind', X, 'tuple', False), ('kind', X, 'integer', False))),
                ([0], (), (READ, TUPLE, ('sized', X, 1, False)))):
            lore = Lore([CLAUSES[at] for at in keep])
            self.assertEqual(lore.walk({'x': x}), (notes, None))

    def test_walk_over_ties_and_samenesses(self):
        s = Sheet(Book(()), ('x', 'y'), (('c', text(
            "( if ( is integer ( read x ) ) ( if ( most ( read x ) 1 ( read y ) ) 1 ( if ( most 5 0 ( read x ) ) 2 3 ) ) "
            "( if ( alike ( read x ) ( read y ) ) ( if ( alike ( read x ) 'red ) 4 5 ) 6 ) )")),))
        inputs = [{'x': x, 'y': y} for x, y in (
            (1, 2), (2, 2), (7, 2), ('a', 'b'), ('a', 'a'), ('red', 'red'), (1, 'a'), ('a', 1))]
        lore = Lore([watched(s, 'c', given) for given in inputs[:3] + inputs[3:6]])
        for at, given in enumerate(inputs):
            notes, clause = lore.walk(given)
            self.assertEqual(clause, watched(s, 'c', given) if at < 6 else None)
            self.assertEqual(notes, watched(s, 'c', given).notes)

    def test_forget(self):
        for seed in range(20):
            left = list(CLAUSES)
            random.Random(seed).shuffle(left)
            lore = Lore(CLAUSES)
            while left:
                clause = left.pop()
                self.assertIs(lore.forget(clause), True)
                self.assertIs(lore.forget(clause=clause), False)
                self.assertIs(clause in lore, False)
                self.assertEqual(lore, Lore(left))
                self.assertEqual(lore.clauses(), [one for one in CLAUSES if one in left])
            self.assertEqual((lore.walk({'x': 1}), len(lore)), (((), None), 0))

    def test_nodes_without_clauses_go(self):
        lore = Lore(CLAUSES)
        for clause in CLAUSES[:5]:
            lore.forget(clause)
        self.assertEqual(lore.walk({'x': (1, 2)}), ((READ, TUPLE), None))
        for clause in CLAUSES[5:7]:
            lore.forget(clause)
        self.assertEqual(lore.walk({'x': 1}), ((READ,), None))
        lore.forget(CLAUSES[7])
        # Of an empty lore no question is left, so a clause of another rule can be learned.
        self.assertIs(lore.learn(Clause((), Literal(1))), True)
        self.assertEqual(lore.walk({}), ((), Clause((), Literal(1))))
        self.assertIs(lore.forget(Clause((), Literal(1))), True)
        self.assertEqual(lore, Lore())

    def test_forgotten_and_learned_again(self):
        lore = Lore(CLAUSES)
        for clause in CLAUSES[::2]:
            lore.forget(clause)
        for clause in CLAUSES[::2]:
            self.assertIs(lore.learn(clause), True)
        self.assertEqual(lore.clauses(), CLAUSES)

    def test_equal_lores(self):
        self.assertEqual(Lore(CLAUSES[:3]), Lore(CLAUSES[2::-1]))
        self.assertNotEqual(Lore(CLAUSES[:3]), Lore(CLAUSES[:2]))
        self.assertNotEqual(Lore(CLAUSES[:1]), Lore(CLAUSES[1:2]))
        self.assertNotEqual(Lore(CLAUSES[:1]), CLAUSES[:1])
        self.assertNotEqual(Lore(), ())

    def test_lists_are_new(self):
        clauses = list(CLAUSES)
        lore = Lore(clauses)
        clauses.clear()
        lore.clauses().clear()
        self.assertEqual(lore.clauses(), CLAUSES)


class OtherRuleTest(unittest.TestCase):
    def test_another_question(self):
        lore = Lore([CLAUSES[2], CLAUSES[5]])
        notes = CLAUSES[2].notes
        for at, note in (
                (0, ('read', 'y', True)), (1, ('kind', X, 'atom', True)), (2, ('sized', X, 2, False)),
                (2, ('size', X, 2)), (3, ('sized', X, 2, True)), (4, ('kind', ('x', 1), 'integer', True)),
                (5, ('kind', ('x', 1), 'tuple', True))):
            other = Clause((*notes[:at], note), Literal(1))
            self.assertEqual(learn_error(lore, other), at, note)
            self.assertIs(other in lore, False)
            self.assertIs(lore.forget(other), False)

    def test_the_outcome_does_not_matter(self):
        """A note that asks the question of the tree leads on, or to a new edge."""
        lore = Lore([CLAUSES[2]])
        other = Clause((READ, ('kind', X, 'tuple', False), ('kind', X, 'atom', True)), Literal(1))
        self.assertIsNone(learn_error(lore, other))
        self.assertEqual(lore.clauses(), [CLAUSES[2], other])

    def test_behind_the_end_of_a_clause(self):
        lore = Lore([CLAUSES[5]])
        notes = CLAUSES[5].notes
        other = Clause((*notes, ('tie', X, None, 0, True)), Literal(1))
        self.assertEqual(learn_error(lore, other), len(notes))
        both = Clause((*notes, ('tie', X, None, 0, True), ('read', 'y', True)), Literal(1))
        self.assertEqual(learn_error(lore, both), len(notes))
        self.assertEqual(learn_error(Lore([Clause((), Literal(1))]), CLAUSES[5]), 0)

    def test_before_the_end_of_a_clause(self):
        lore = Lore([CLAUSES[2]])
        for many in range(len(CLAUSES[2].notes)):
            other = Clause(CLAUSES[2].notes[:many], Literal(1))
            self.assertEqual(learn_error(lore, other), many)
            self.assertIs(other in lore, False)
            self.assertIs(lore.forget(other), False)

    def test_another_result(self):
        lore = Lore([CLAUSES[5], CLAUSES[7]])
        other = Clause(CLAUSES[5].notes, Shifted(X, 2))
        self.assertEqual(learn_error(lore, other), len(other.notes))
        self.assertIs(other in lore, False)
        self.assertIs(lore.forget(other), False)
        self.assertEqual(learn_error(lore, Clause(CLAUSES[7].notes, Whole(X))), 1)
        self.assertEqual(learn_error(lore, Clause(CLAUSES[7].notes, Fault('bad'))), 1)
        # Faults are equal if their words are.
        self.assertIs(lore.learn(Clause(CLAUSES[7].notes, Fault('read', 'other', (5,)))), False)

    def test_of_the_first_clauses(self):
        with self.assertRaises(NoNote) as caught:
            Lore([CLAUSES[0], CLAUSES[1], Clause((), Literal(1))])
        self.assertEqual(caught.exception.at, 0)


class SearchTest(unittest.TestCase):
    def test_walks_lead_to_the_clauses_of_runs(self):
        for seed in range(150):
            sheet = random_sheet(seed)
            inputs = some_inputs(seed, Box(2, 2), 20)
            lore = Lore()
            learned = []
            for given in inputs:
                notes, clause = lore.walk(given)
                want = watched(sheet, 'c', given)
                self.assertEqual(want.notes[:len(notes)], notes)
                self.assertEqual(clause is None, want not in learned)
                self.assertIs(lore.learn(want), clause is None)
                if clause is None:
                    learned.append(want)
                else:
                    self.assertEqual(clause, want)
                    self.assertEqual(clause(given), logged(sheet, 'c', given)[1])
            self.assertEqual(len(lore), len(learned))


if __name__ == '__main__':
    unittest.main()
