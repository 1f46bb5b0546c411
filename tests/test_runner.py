"""Promises [11] to [14]: the language, its strict evaluation, work, and plain runs."""

import unittest

from runlore.errors import NoCell
from runlore.runner import plain
from runlore.trees import Book
from runlore.values import Fault

NONE = Book(())
GIVEN = {'i': 5, 'j': -2, 'r': 'red', 'b': 'blue', 'k': 'i', 't': (4, 'red', (7,)), 'e': (), 'f': Fault('bad')}


def integer(k):
    return ('int', k)


def atom(w):
    return ('atom', w)


def read(n):
    return ('read', n)


def name(x):
    return ('name', x)


def tuple_of(*trees):
    return ('tuple', trees)


def answer(test):
    return ('if', test, integer(1), integer(0))


def deep(many, inside=('tuple', ())):
    """A tuple of a tuple, so many times around the inside."""
    for _ in range(many):
        inside = tuple_of(inside)
    return inside


class RunnerTest(unittest.TestCase):
    def check(self, body, value, book=NONE, given=GIVEN):
        found = plain(book, body, given)
        self.assertEqual(found, value, body)
        self.assertIs(type(found), type(value))

    def check_fault(self, body, word, path=(), book=NONE, rule='cell', given=GIVEN):
        found = plain(book, body, given, rule='cell')
        self.assertIsInstance(found, Fault)
        self.assertEqual((found.word, found.rule, found.path), (word, rule, path), body)


class ExpressionTest(RunnerTest):
    def test_literals_and_reads(self):
        self.check(integer(-3), -3)
        self.check(atom('red'), 'red')
        self.check(read('t'), (4, 'red', (7,)))
        self.check_fault(read('f'), 'read')
        self.check_fault(tuple_of(integer(1), read('f')), 'read', (1, 1))
        with self.assertRaises(NoCell) as caught:
            plain(NONE, read('n'), GIVEN)
        self.assertEqual(caught.exception.name, 'n')

    def test_a_name_that_is_not_given_matters_only_if_it_is_read(self):
        self.check(('if', ('is', 'integer', read('i')), integer(1), read('n')), 1)
        self.check_fault(tuple_of(('fail', 'bad'), read('n')), 'bad', (1, 0))

    def test_plus(self):
        self.check(('plus', read('i'), -7), -2)
        self.check(('plus', integer(0), 0), 0)
        self.check(('plus', integer(10 ** 9), 10 ** 9), 2 * 10 ** 9)
        for thing in ('r', 't', 'e'):
            self.check_fault(('plus', read(thing), 1), 'kind')
        self.check_fault(('plus', tuple_of(), 1), 'kind')

    def test_tuple(self):
        self.check(tuple_of(), ())
        self.check(tuple_of(integer(1), tuple_of(atom('a')), read('e')), (1, ('a',), ()))
        self.check_fault(tuple_of(integer(1), ('plus', atom('a'), 1)), 'kind', (1, 1))

    def test_part(self):
        self.check(('part', read('t'), 0), 4)
        self.check(('part', ('part', read('t'), 2), 0), 7)
        self.check(('part', tuple_of(integer(3), atom('a')), 1), 'a')
        self.check_fault(('part', read('t'), 3), 'part')
        self.check_fault(('part', read('e'), 0), 'part')
        self.check_fault(('part', tuple_of(), 0), 'part')
        self.check_fault(('part', read('i'), 0), 'kind')
        self.check_fault(('part', read('r'), 0), 'kind')

    def test_join(self):
        self.check(('join', read('t'), tuple_of(integer(1))), (4, 'red', (7,), 1))
        self.check(('join', read('e'), read('e')), ())
        self.check_fault(('join', read('i'), read('t')), 'kind')
        self.check_fault(('join', read('t'), read('r')), 'kind')

    def test_reach(self):
        self.check(('reach', read('k')), 5)
        self.check(('reach', atom('t')), (4, 'red', (7,)))
        self.check_fault(('reach', atom('zz')), 'name')
        self.check_fault(('reach', read('r')), 'name')
        self.check_fault(('reach', read('i')), 'kind')
        self.check_fault(('reach', read('t')), 'kind')
        self.check_fault(('reach', atom('f')), 'read')
        self.check_fault(('reach', atom('a')), 'name', given={})
        self.check(('reach', ('reach', atom('k'))), 5)
        self.check_fault(tuple_of(('reach', ('reach', atom('i')))), 'kind', (1, 0))

    def test_let(self):
        self.check(('let', 'x', read('i'), tuple_of(name('x'), ('let', 'y', ('plus', name('x'), 1), name('y')), name('x'))),
                   (5, 6, 5))
        self.check_fault(('let', 'x', read('f'), integer(1)), 'read', (2,))
        self.check_fault(('let', 'x', integer(1), ('part', name('x'), 0)), 'kind', (3,))

    def test_if(self):
        self.check(('if', ('is', 'atom', read('r')), read('i'), read('f')), 5)
        self.check(('if', ('is', 'atom', read('i')), read('f'), read('j')), -2)
        self.check_fault(('if', ('is', 'atom', read('f')), integer(1), integer(2)), 'read', (1, 2))

    def test_each(self):
        self.check(('each', 'x', read('t'), tuple_of(name('x'))), ((4,), ('red',), ((7,),)))
        self.check(('each', 'x', read('e'), ('fail', 'bad')), ())
        self.check(('each', 'x', tuple_of(integer(1), integer(2)), ('each', 'y', read('t'), name('x'))), ((1, 1, 1), (2, 2, 2)))
        self.check_fault(('each', 'x', read('i'), integer(1)), 'kind')
        self.check_fault(('each', 'x', read('t'), ('plus', name('x'), 1)), 'kind', (3,))

    def test_pick(self):
        self.check(('pick', 'x', read('t'), ('not', ('is', 'atom', name('x')))), (4, (7,)))
        self.check(('pick', 'x', read('t'), ('is', 'tuple', integer(1))), ())
        self.check(('pick', 'x', read('e'), ('is', 'tuple', read('f'))), ())
        self.check_fault(('pick', 'x', read('r'), ('is', 'atom', name('x'))), 'kind')
        self.check_fault(('pick', 'x', read('t'), ('sized', name('x'), 1)), 'kind', (3,))

    def test_fold(self):
        last_two = tuple_of(('part', name('a'), 1), name('x'))
        self.check(('fold', 'a', tuple_of(integer(0), integer(0)), 'x', read('t'), last_two), ('red', (7,)))
        self.check(('fold', 'a', read('i'), 'x', read('e'), ('fail', 'bad')), 5)
        self.check(('fold', 'a', integer(0), 'x', read('t'), ('plus', name('a'), 1)), 3)
        nested = ('fold', 'c', name('a'), 'y', read('t'), ('plus', name('c'), 1))
        self.check(('fold', 'a', integer(0), 'x', read('t'), nested), 9)
        self.check_fault(('fold', 'a', read('t'), 'x', read('i'), name('a')), 'kind')
        self.check_fault(('fold', 'a', integer(0), 'x', read('t'), ('plus', name('x'), 1)), 'kind', (5,))

    def test_trees_inside_of_others_leave_the_others_alone(self):
        given = {'i': 1, 'r': 'red', 't': (3, 4)}
        book = Book([('d', ('p', 'q'), None, tuple_of(name('q'), name('p')))])
        trees = (
            (integer(7), 7), (read('r'), 'red'), (('plus', read('i'), 2), 3), (tuple_of(), ()),
            (tuple_of(integer(1), integer(2)), (1, 2)), (('part', read('t'), 1), 4), (('join', read('t'), read('t')), (3, 4, 3, 4)),
            (('reach', atom('i')), 1), (('call', 'd', (integer(1), integer(2))), (2, 1)),
            (('let', 'x', integer(1), name('x')), 1), (('each', 'x', read('t'), integer(0)), (0, 0)),
            (('pick', 'x', read('t'), ('most', name('x'), 0, integer(3))), (3,)),
            (('fold', 'a', integer(0), 'x', read('t'), name('x')), 4),
            (answer(('is', 'atom', read('r'))), 1), (answer(('sized', read('t'), 1)), 0),
            (answer(('sized', tuple_of(integer(1)), 1)), 1), (answer(('most', read('i'), 0, integer(5))), 1),
            (answer(('alike', read('r'), atom('b'))), 0), (answer(('not', ('is', 'atom', read('r')))), 0),
            (answer(('both', ('is', 'atom', read('r')), ('most', integer(1), 0, integer(1)))), 1),
            (answer(('both', ('is', 'atom', read('i')), ('is', 'atom', ('fail', 'bad')))), 0),
            (answer(('either', ('is', 'atom', read('i')), ('alike', read('r'), read('r')))), 1))
        for tree, value in trees:
            for other, more in trees:
                body = tuple_of(atom('z'), tree, other, ('join', tuple_of(tree), tuple_of(atom('y'), other)))
                self.check(body, ('z', value, more, (value, 'y', more)), book, given)
                nested = ('let', 'm', other, tuple_of(tree, name('m'), ('call', 'd', (tree, other))))
                if tree[0] != 'let' and other[0] != 'let':
                    self.check(nested, (value, more, (more, value)), book, given)

    def test_operands_come_first(self):
        bad, worse = ('fail', 'bad'), ('fail', 'worse')
        self.check_fault(('fold', 'a', bad, 'x', worse, name('a')), 'bad', (2,))
        self.check_fault(('fold', 'a', integer(1), 'x', worse, name('a')), 'worse', (4,))
        self.check_fault(('join', integer(1), bad), 'bad', (2,))
        self.check_fault(('call', 'd', (integer(1), bad)), 'bad', (2, 1), Book([('d', ('p', 'q'), None, worse)]))
        self.check_fault(answer(('most', atom('a'), 0, bad)), 'bad', (1, 3))
        self.check_fault(answer(('alike', integer(1), bad)), 'bad', (1, 2))
        self.check_fault(tuple_of(bad, worse), 'bad', (1, 0))

    def test_fail(self):
        self.check_fault(('fail', 'kind'), 'kind')
        self.check_fault(('each', 'x', read('t'), ('fail', 'own')), 'own', (3,))

    def test_call(self):
        twice = ('two', ('p',), None, tuple_of(name('p'), name('p')))
        both = ('both', ('p', 'q'), None, tuple_of(('call', 'two', (name('q'),)), name('p')))
        book = Book([twice, both])
        self.check(('call', 'both', (integer(1), ('call', 'two', (atom('a'),)))), ((('a', 'a'), ('a', 'a')), 1), book)
        self.check(('call', 'nil', ()), 3, Book([('nil', (), None, integer(3))]))

    def test_faults_in_definitions_tell_their_names(self):
        book = Book([('in', ('p',), None, tuple_of(tuple_of(), ('part', name('p'), 0))),
                     ('out', ('p',), None, ('let', 'x', name('p'), ('call', 'in', (name('x'),))))])
        self.check_fault(tuple_of(('call', 'out', (integer(1),))), 'kind', (1, 1), book, rule='in')
        self.check_fault(tuple_of(('call', 'out', (('fail', 'bad'),))), 'bad', (1, 0, 2, 0), book)

    def test_locals_of_a_caller_stay(self):
        book = Book([('d', ('x',), None, ('let', 'y', ('plus', name('x'), 1), name('y')))])
        self.check(('let', 'x', integer(1), tuple_of(('call', 'd', (integer(5),)), name('x'))), (6, 1), book)

    def test_a_definition_that_calls_itself(self):
        depth = ('depth', ('t',), 0, ('if', ('is', 'tuple', name('t')), ('fold', 'a', integer(0), 'x', name('t'), (
            'plus', ('call', 'depth', (name('x'),)), 1)), integer(0)))
        self.check(('call', 'depth', (deep(5),)), 5, Book([depth]))


class TestTest(RunnerTest):
    def check_test(self, test, told):
        self.check(answer(test), 1 if told else 0)

    def check_test_fault(self, test, word, path=(1,)):
        self.check_fault(answer(test), word, path)

    def test_is(self):
        for thing, kind in (('i', 'integer'), ('r', 'atom'), ('t', 'tuple'), ('e', 'tuple')):
            for other in ('integer', 'atom', 'tuple'):
                self.check_test(('is', other, read(thing)), kind == other)
        self.check_test(('is', 'tuple', tuple_of()), True)
        self.check_test(('is', 'atom', tuple_of()), False)
        self.check_test_fault(('is', 'atom', read('f')), 'read', (1, 2))

    def test_sized(self):
        for k in range(5):
            self.check_test(('sized', read('t'), k), k == 3)
            self.check_test(('sized', tuple_of(integer(1)), k), k == 1)
        self.check_test_fault(('sized', read('i'), 0), 'kind')
        self.check_test_fault(('sized', read('r'), 3), 'kind')

    def test_most(self):
        for c in range(-10, 10):
            self.check_test(('most', read('i'), c, read('j')), 5 + c <= -2)
        self.check_test_fault(('most', read('r'), 0, read('j')), 'kind')
        self.check_test_fault(('most', read('i'), 0, read('t')), 'kind')

    def test_alike(self):
        self.check_test(('alike', read('r'), atom('red')), True)
        self.check_test(('alike', read('r'), read('b')), False)
        self.check_test(('alike', read('r'), read('r')), True)
        self.check_test_fault(('alike', read('i'), atom('red')), 'kind')
        self.check_test_fault(('alike', atom('red'), read('t')), 'kind')
        self.check_test_fault(('alike', atom('red'), tuple_of()), 'kind')

    def test_not_both_and_either(self):
        yes, no, bad = ('is', 'atom', atom('a')), ('is', 'atom', integer(1)), ('is', 'atom', ('fail', 'bad'))
        for test, told in ((yes, True), (no, False), (('not', yes), False), (('not', no), True),
                           (('both', yes, yes), True), (('both', yes, no), False), (('both', no, yes), False),
                           (('both', no, no), False), (('either', yes, yes), True), (('either', yes, no), True),
                           (('either', no, yes), True), (('either', no, no), False),
                           (('both', no, bad), False), (('either', yes, bad), True),
                           (('not', ('both', ('either', no, yes), ('not', no))), False)):
            self.check_test(test, told)
        for test, path in ((('both', yes, bad), (1, 2, 2)), (('either', no, bad), (1, 2, 2)), (('not', bad), (1, 1, 2)),
                           (('both', bad, no), (1, 1, 2)), (('either', bad, yes), (1, 1, 2))):
            self.check_test_fault(test, 'bad', path)


class WorkTest(RunnerTest):
    """Each body here does the work that its comment counts; the bound is 4,096."""

    def check_work(self, body_of, many, path, book=NONE):
        """body_of(many) is just within the bound, body_of(many + 1) beyond it."""
        self.assertNotIsInstance(plain(book, body_of(many), {'t': ()}), Fault)
        self.check_fault(body_of(many + 1), 'long', path, book, given={'t': ()})

    def test_tuple_steps_and_calls(self):
        # A loop of 13 steps adds 13; tuples of k literals weigh 1 + k.
        t = tuple(range(13))
        self.check(('fold', 'a', integer(0), 'x', read('t'), integer(1)), 1, given={'t': t})
        rows = {'t': (0,) * 1024}
        each = ('each', 'x', read('t'), tuple_of(name('x')))
        # 1024 steps, 1024 tuples that weigh 2, and one that weighs 1 + 1024 * 2.
        self.check_fault(each, 'long', given=rows)
        self.assertEqual(len(plain(NONE, each, {'t': (0,) * 819})), 819)
        self.check_fault(each, 'long', given={'t': (0,) * 820})

    def test_just_at_the_bound(self):
        # 4,096 steps and nothing else; one step more is too much.
        fold = ('fold', 'a', integer(0), 'x', read('t'), ('plus', name('a'), 1))
        self.check(fold, 4096, given={'t': (0,) * 4096})
        self.check_fault(fold, 'long', given={'t': (0,) * 4097})
        # Joining a read tuple of n parts with () weighs 1 + n; the tuple () weighs 1.
        join = ('join', read('t'), tuple_of())
        self.assertEqual(len(plain(NONE, join, {'t': (0,) * 4094})), 4094)
        self.check_fault(join, 'long', given={'t': (0,) * 4095})
        self.check_fault(('part', join, 0), 'long', (1,), given={'t': (0,) * 4095})

    def test_moved_tuples_weigh_1(self):
        big = (tuple(range(2000)),) * 3
        self.check(tuple_of(read('t'), ('part', read('t'), 0)), (big, big[0]), given={'t': big})
        self.check(('join', read('t'), read('t')), big + big, given={'t': big})

    def test_parts_of_made_tuples_keep_their_weights(self):
        # The inside weighs 1001, then 1002 around it. Its part still weighs 1001 in the next tuple.
        body = ('let', 'x', ('join', read('t'), read('e')), ('let', 'y', tuple_of(name('x')), tuple_of(('part', name('y'), 0))))
        # 1 + n, 2 + n and 2 + n make 5 + 3n.
        self.assertEqual(len(plain(NONE, body, {'t': (0,) * 1363, 'e': ()})[0]), 1363)
        self.check_fault(body, 'long', (3, 3), given={'t': (0,) * 1364, 'e': ()})

    def test_a_loop_over_a_made_tuple(self):
        # n + 1 for the join, n steps, n + 1 for the tuple of the loop: 3n + 2.
        body = ('each', 'x', ('join', read('t'), read('e')), name('x'))
        self.assertEqual(len(plain(NONE, body, {'t': (0,) * 1364, 'e': ()})), 1364)
        self.check_fault(body, 'long', given={'t': (0,) * 1365, 'e': ()})
        pick = ('pick', 'x', ('join', read('t'), read('e')), ('is', 'integer', name('x')))
        self.assertEqual(len(plain(NONE, pick, {'t': (0,) * 1364, 'e': ()})), 1364)
        self.check_fault(pick, 'long', given={'t': (0,) * 1365, 'e': ()})
        none = ('pick', 'x', ('join', read('t'), read('e')), ('is', 'atom', name('x')))
        # n + 1, n steps, and 1 for the empty tuple: 2n + 2.
        self.check(none, (), given={'t': (0,) * 2047, 'e': ()})
        self.check_fault(none, 'long', given={'t': (0,) * 2048, 'e': ()})

    def test_a_call_adds_1(self):
        # Each step adds 1 and each call 1.
        book = Book([('d', ('p',), None, name('p'))])
        body = ('fold', 'a', integer(0), 'x', read('t'), ('call', 'd', (name('a'),)))
        self.check(body, 0, book, given={'t': (0,) * 2048})
        self.check_fault(body, 'long', (), book, given={'t': (0,) * 2049})
        more = ('let', 'y', tuple_of(), body)
        # With 1 for () it is the last call that is too much.
        self.check_fault(more, 'long', (3, 5), book, given={'t': (0,) * 2048})

    def test_work_goes_on_in_called_bodies(self):
        book = Book([('d', ('p',), None, ('join', name('p'), name('p')))])
        # n + 1 for the join, 1 for the call, and 2n + 1 in the body.
        body = ('call', 'd', (('join', read('t'), read('e')),))
        self.assertEqual(len(plain(book, body, {'t': (0,) * 1364, 'e': ()})), 2728)
        self.check_fault(body, 'long', (), book, rule='d', given={'t': (0,) * 1365, 'e': ()})

    def test_nesting(self):
        self.check(deep(29), self.nested(30))
        self.check_fault(deep(30), 'long')
        self.check_fault(tuple_of(integer(1), deep(31)), 'long', (1, 1, 1, 0))
        # What is read nests 0 deep.
        self.check(deep(29, tuple_of(read('t'))), self.nested(30, (GIVEN['t'],)))
        self.check(deep(30, read('t')), self.nested(31, GIVEN['t']))
        self.check_fault(deep(31, read('t')), 'long')
        joined = ('join', deep(29), read('e'))
        self.check(joined, self.nested(30))
        self.check_fault(('each', 'x', tuple_of(integer(1)), deep(29)), 'long')
        # A part nests less than its tuple did.
        self.check(tuple_of(('part', deep(29), 0)), self.nested(30))

    def nested(self, many, inside=()):
        for _ in range(many - 1):
            inside = (inside,)
        return inside

    def test_calls_in_calls(self):
        chain = [('a', ('p',), None, name('p'))]
        for letter in 'bcdefghijklm':
            chain.append((letter, ('p',), None, ('call', chain[-1][0], (name('p'),))))
        book = Book(chain)
        self.check(('call', 'l', (integer(1),)), 1, book)
        self.check_fault(('call', 'm', (integer(1),)), 'long', (), book, rule='b')
        # Arguments are evaluated outside of the call.
        many = integer(1)
        for _ in range(20):
            many = ('call', 'a', (many,))
        self.check(many, 1, book)
        self.check(tuple_of(('call', 'l', (integer(1),)), ('call', 'l', (integer(2),))), (1, 2), book)


class PlainTest(RunnerTest):
    def test_arguments(self):
        fault = plain(book=NONE, body=('fail', 'bad'), given={}, rule='big')
        self.assertEqual((fault.word, fault.rule, fault.path), ('bad', 'big', ()))
        self.assertEqual(plain(NONE, ('fail', 'bad'), {}).rule, '')
        with self.assertRaises(TypeError):
            plain(NONE, integer(1), {}, 'big')

    def test_nothing_is_changed(self):
        given = dict(GIVEN)
        body = ('each', 'x', read('t'), tuple_of(name('x'), read('i')))
        first = plain(NONE, body, given)
        self.assertEqual(given, GIVEN)
        self.assertEqual(plain(NONE, body, given), first)

    def test_the_order_of_keys_means_nothing(self):
        body = tuple_of(('reach', read('k')), read('t'))
        turned = dict(list(GIVEN.items())[::-1])
        self.assertEqual(plain(NONE, body, GIVEN), plain(NONE, body, turned))

    def test_values_that_are_beyond_the_bounds(self):
        self.check(('plus', read('i'), 1), 10 ** 30 + 1, given={'i': 10 ** 30})
        value = ()
        for _ in range(500):
            value = (value,)
        self.check(tuple_of(read('t')), (value,), given={'t': value})

    def test_deep_bodies(self):
        body = read('i')
        for _ in range(1000):
            body = ('if', ('most', ('int', 0), 0, ('int', 1)), ('plus', body, 1), ('fail', 'no'))
        self.check(body, 1007, given={'i': 7})

    def test_books(self):
        one, two = ('d', ('p',), None, name('p')), ('e', (), None, integer(1))
        book = Book([one, two])
        self.assertEqual((book.definitions, len(book), book['e'], book['d']), ((one, two), 2, two, one))
        self.assertEqual(book, Book(definitions=(one, two)))
        self.assertNotEqual(book, Book([two, one]))
        with self.assertRaises(NoCell) as caught:
            book['f']
        self.assertEqual(caught.exception.name, 'f')


if __name__ == '__main__':
    unittest.main()
