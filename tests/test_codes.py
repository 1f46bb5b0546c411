"""Code and machines: promises [44] and [45]."""

import unittest

from glances import random_sheet, some_inputs
from runlore.boxes import Box
from runlore.clauses import Clause
from runlore.codes import Code, Machine
from runlore.errors import NoNote, TooMany
from runlore.lore import Lore
from runlore.sheets import Sheet
from runlore.tables import table
from runlore.terms import Literal, Shifted, Whole
from runlore.treetexts import read_expression as text
from runlore.trees import Book
from runlore.values import Fault
from runlore.watcher import watched

X, Y, T = ('x',), ('y',), ('t',)


def sheet_of(body, inputs=('t', 'x', 'y')):
    return Sheet(Book(()), inputs, (('c', text(body)),))


COUNT = sheet_of('( fold n 0 z ( read t ) ( plus n 1 ) )')
MAX = sheet_of('( if ( most ( read x ) 0 ( read y ) ) ( read y ) ( read x ) )')
ALL = table(COUNT, 'c', Box(2, 1))


class CodeTest(unittest.TestCase):
    def test_no_clauses(self):
        for clauses in ((), [], Lore()):
            code = Code.of(clauses)
            self.assertEqual((code.rows, len(code)), ((('unknown',),), 1))
        self.assertEqual(Machine(Code.of(()), None).run(), ('unknown',))

    def test_a_clause_without_notes(self):
        for result, row, told in ((Literal(5), ('tell', Literal(5)), ('told', 5)), (Fault('bad'), ('fail', Fault('bad')), ('fault', 'bad'))):
            code = Code.of((Clause((), result),))
            self.assertEqual(code.rows, (row, ('unknown',)))
            self.assertEqual(Machine(code, None).run(), told)

    def test_rows_of_a_table(self):
        self.assertEqual(Code.of(ALL).rows, (
            ('ask', 't', 1, 7), ('kind', T, 'tuple', 2, 6), ('size', T, ((0, 3), (1, 4), (2, 5))), ('tell', Literal(0)),
            ('tell', Literal(1)), ('tell', Literal(2)), ('fail', Fault('kind')), ('fail', Fault('read')), ('unknown',)))
        self.assertEqual(len(Code.of(ALL)), 9)

    def test_missing_outcomes(self):
        self.assertEqual(Code.of((ALL[1],)).rows, (
            ('ask', 't', 1, 4), ('kind', T, 'tuple', 2, 4), ('size', T, ((1, 3),)), ('tell', Literal(1)), ('unknown',)))
        self.assertEqual(Code.of((ALL[3],)).rows, (('ask', 't', 1, 3), ('kind', T, 'tuple', 3, 2), ('fail', Fault('kind')), ('unknown',)))
        self.assertEqual(Code.of((ALL[4],)).rows, (('ask', 't', 2, 1), ('fail', Fault('read')), ('unknown',)))

    def test_all_sorts_of_rows(self):
        s = sheet_of("( if ( sized ( read t ) 1 ) ( if ( most ( read x ) 3 ( read y ) ) 1 ( plus ( read y ) 2 ) ) "
                     "( if ( alike ( read x ) 'red ) ( read y ) ( fail bad ) ) )")
        clauses = [watched(s, 'c', given) for given in (
            {'t': (), 'x': 'red', 'y': 3}, {'t': (1,), 'x': 3, 'y': 5}, {'t': (1,), 'x': 3, 'y': 6}, {'t': (), 'x': 'blue', 'y': 3})]
        rows = Code.of(clauses).rows
        self.assertEqual([row[0] for row in rows], [
            'ask', 'kind', 'sized', 'ask', 'ask', 'kind', 'kind', 'tie', 'tell', 'tell',
            'ask', 'kind', 'alike', 'ask', 'tell', 'fail', 'unknown'])
        self.assertEqual(rows[2], ('sized', T, 1, 3, 10))
        self.assertEqual(rows[7], ('tie', X, Y, -3, 8, 9))
        self.assertEqual(rows[8:10], (('tell', Literal(1)), ('tell', Shifted(Y, 2))))
        self.assertEqual(rows[11:], (
            ('kind', X, 'atom', 12, 16), ('alike', X, 'red', 13, 15), ('ask', 'y', 14, 16), ('tell', Whole(Y)), ('fail', Fault('bad')), ('unknown',)))

    def test_lores_tuples_and_lists(self):
        code = Code.of(Lore(ALL))
        for clauses in (ALL, list(ALL), ALL[::-1], ALL + ALL[:2]):
            self.assertEqual(Code.of(clauses=clauses), code)
        clauses = list(ALL)
        code = Code.of(clauses)
        clauses.clear()
        self.assertEqual(len(code), 9)
        lore = Lore(ALL)
        code = Code.of(lore)
        lore.forget(ALL[0])
        self.assertEqual(code, Code.of(ALL))

    def test_equal_code(self):
        self.assertEqual(Code.of(ALL), Code.of(Lore(ALL[::-1])))
        self.assertNotEqual(Code.of(ALL), Code.of(ALL[1:]))
        self.assertNotEqual(Code.of(()), ())
        self.assertNotEqual(Code.of(ALL), Code.of(ALL).rows)
        self.assertIs(Code.of(ALL) == 5, False)

    def test_clauses_of_another_rule(self):
        other = watched(MAX, 'c', {'x': 1, 'y': 2})
        for clauses, at in (((ALL[0], other), 0), ((other, ALL[0]), 0), ((ALL[4], Clause((('read', 't', False),), Fault('bad'))), 1),
                            ((ALL[0], Clause((('read', 't', True),), Literal(1))), 1), ((Clause((), Literal(1)), ALL[0]), 0)):
            with self.assertRaises(NoNote) as own:
                Code.of(clauses)
            with self.assertRaises(NoNote) as caught:
                Lore(clauses)
            self.assertEqual((own.exception.at, caught.exception.at), (at, at))


class Stop(Exception):
    pass


class MachineTest(unittest.TestCase):
    def test_steps(self):
        asked = []
        given = {'t': (5, 5)}

        def ask(name):
            asked.append(name)
            return given[name]

        machine = Machine(Code.of(ALL), ask)
        self.assertEqual((machine.at, machine.asked, asked), (0, (), []))
        for at in (1, 2, 5):
            self.assertIs(machine.step(), True)
            self.assertEqual((machine.at, machine.asked, asked), (at, ('t',), ['t']))
        for _ in range(2):
            self.assertIs(machine.step(), False)
            self.assertEqual((machine.at, machine.asked), (5, ('t',)))
            self.assertEqual(machine.run(), ('told', 2))
        self.assertEqual(asked, ['t'])

    def test_ends(self):
        code = Code.of(ALL[:2] + ALL[3:])
        for value, told in (((), ('told', 0)), ((1,), ('told', 1)), ((1, 2), ('unknown',)), ('a', ('fault', 'kind')), (5, ('fault', 'kind')),
                            (Fault('bad'), ('fault', 'read'))):
            machine = Machine(code, {'t': value}.get)
            self.assertEqual(machine.run(), told)
            self.assertEqual(machine.run(), told)
            self.assertIs(machine.step(), False)
        self.assertEqual(Machine(code, {'t': (1, 2)}.get).run(), code.rows[-1])

    def test_what_is_asked(self):
        code = Code.of(table(MAX, 'c', Box(1, 1)))
        for given, asked, told in (({'x': 1, 'y': 4}, ('x', 'y'), ('told', 4)), ({'x': 5, 'y': 4}, ('x', 'y'), ('told', 5)),
                                   ({'x': Fault('bad'), 'y': 4}, ('x',), ('fault', 'read')), ({'x': 1, 'y': 'a'}, ('x', 'y'), ('fault', 'kind'))):
            machine = Machine(code=code, ask=given.get)
            self.assertEqual(machine.run(), told)
            self.assertEqual(machine.asked, asked)

    def test_an_error_at_each_step(self):
        """What `ask` raises is passed on; the machine stays, and goes on once `ask` answers."""
        s = sheet_of('( tuple ( read x ) ( plus ( read t ) 1 ) ( read y ) )')
        code = Code.of((watched(s, 'c', {'x': 1, 't': 2, 'y': 3}),))
        fails = [0, 1, 2]
        given = {'x': 1, 't': 2, 'y': 3}

        def ask(name):
            if fails and len(machine.asked) == fails[0]:
                fails.pop(0)
                raise Stop(name)
            return given[name]

        machine = Machine(code, ask)
        for at, asked, name in ((0, (), 'x'), (1, ('x',), 't'), (3, ('x', 't'), 'y')):
            with self.assertRaises(Stop) as caught:
                machine.run()
            self.assertEqual((caught.exception.args, machine.at, machine.asked), ((name,), at, asked))
        self.assertEqual(machine.run(), ('told', (1, 3, 3)))
        self.assertEqual(machine.asked, ('x', 't', 'y'))

    def test_two_machines_of_one_code(self):
        code = Code.of(ALL)
        one, other = Machine(code, {'t': (1,)}.get), Machine(code, {'t': 7}.get)
        self.assertIs(one.step(), True)
        self.assertEqual((other.at, other.asked), (0, ()))
        self.assertEqual(other.run(), ('fault', 'kind'))
        self.assertEqual((one.at, one.run()), (1, ('told', 1)))

    def test_great_values(self):
        deep = ()
        for _ in range(190):
            deep = (deep,)
        s = sheet_of('( if ( sized ( read x ) 1 ) ( tuple ( read x ) ( read y ) ) 1 )')
        code = Code.of((watched(s, 'c', {'x': (1,), 'y': 2}),))
        many = tuple(range(20000))
        self.assertEqual(Machine(code, {'x': (deep,), 'y': many}.get).run(), ('told', ((deep,), many)))


class SearchTest(unittest.TestCase):
    def test_machines_against_lore(self):
        counts = {}
        for seed in range(120):
            sheet = random_sheet(seed, 3)
            box = Box(seed % 3, (seed // 3) % 3)
            try:
                clauses = table(sheet, 'c', box, most=150)[seed % 2::2]
            except TooMany:
                continue
            lore, code = Lore(clauses), Code.of(clauses)
            self.check_numbers(code)
            for given in some_inputs(seed, Box(3, 2), 20):
                machine = Machine(code, given.__getitem__)
                told = machine.run()
                notes, clause = lore.walk(given)
                self.assertEqual(machine.asked, tuple(note[1] for note in notes if note[0] == 'read'))
                if clause is None:
                    self.assertEqual(told, ('unknown',))
                    self.assertFalse(any(given in one for one in clauses))
                else:
                    result = clause(given)
                    self.assertEqual(told, ('fault', result.word) if isinstance(result, Fault) else ('told', result))
                counts[told[0]] = counts.get(told[0], 0) + 1
        self.assertGreater(min(counts.values()), 100)

    def check_numbers(self, code):
        """Each row but the first and the last one is where just one other row goes on, before it; the last one is last."""
        reached = []
        for at, row in enumerate(code.rows):
            numbers = [to for _, to in row[2]] if row[0] == 'size' else [] if row[0] in ('tell', 'fail', 'unknown') else list(row[-2:])
            numbers = [to for to in numbers if to != len(code) - 1]
            self.assertTrue(all(to > at for to in numbers))
            reached.extend(numbers)
        self.assertEqual(sorted(reached), list(range(1, len(code) - 1)))
        self.assertEqual(code.rows[-1], ('unknown',))


if __name__ == '__main__':
    unittest.main()
