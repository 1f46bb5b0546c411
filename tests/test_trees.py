"""Definitions, pieces, paths and books: promises [15] to [17]."""

import random
import unittest

from reference import Writer
from runlore.errors import LoreError, NoBook, NoCell
from runlore.runner import plain
from runlore.treetexts import read_expression as text
from runlore.trees import Book, children, count, look_body, subtree

ONE = ('int', 1)
X = ('name', 'x')
YES = ('is', 'atom', ONE)


def wrong(definitions):
    """What the error of a book tells."""
    try:
        Book(definitions)
    except NoBook as e:
        return e.word, e.name, e.path
    return None


def wrong_body(body, book=Book(())):
    try:
        assert look_body(book, body, name='cell') is True
    except NoBook as e:
        assert e.name == 'cell'
        return e.word, e.path
    return None


def falling(body, falls=0, parameters=('p', 'q')):
    """What is wrong with the body of a definition f whose first parameter falls."""
    found = wrong((('f', parameters, falls, body),))
    return found if found is None else (found[0], found[2])


class PathTest(unittest.TestCase):
    def test_children(self):
        read = ('read', 'n')
        self.assertEqual(children(read), ())
        self.assertEqual(children(('if', YES, X, ONE)), (((1,), YES), ((2,), X), ((3,), ONE)))
        self.assertEqual(children(('tuple', (X, ONE))), (((1, 0), X), ((1, 1), ONE)))
        self.assertEqual(children(('tuple', ())), ())
        self.assertEqual(children(('call', 'd', (X, ONE))), (((2, 0), X), ((2, 1), ONE)))
        self.assertEqual(children(('let', 'x', ONE, X)), (((2,), ONE), ((3,), X)))
        self.assertEqual(children(('pick', 'x', ONE, YES)), (((2,), ONE), ((3,), YES)))
        self.assertEqual(children(('fold', 'a', ONE, 'x', read, X)), (((2,), ONE), ((4,), read), ((5,), X)))
        self.assertEqual(children(('is', 'tuple', X)), (((2,), X),))
        self.assertEqual(children(('most', X, 3, ONE)), (((1,), X), ((3,), ONE)))
        self.assertEqual(children(('both', YES, YES)), (((1,), YES), ((2,), YES)))
        self.assertEqual(children(('plus', X, 2)), (((1,), X),))
        self.assertEqual(children(('fail', 'w')), ())

    def test_subtree_and_count(self):
        body = ('if', YES, ('tuple', (X, ('plus', ONE, 4))), ('fail', 'no'))
        self.assertEqual(subtree(body, ()), body)
        self.assertEqual(subtree(body, (1,)), YES)
        self.assertEqual(subtree(body, (2, 1, 1)), ('plus', ONE, 4))
        self.assertEqual(subtree(body, (2, 1, 1, 1)), ONE)
        self.assertEqual(count(body), 8)
        self.assertEqual((count(ONE), count(YES), count(('tuple', ()))), (1, 2, 1))

    def test_random_trees(self):
        for seed in range(300):
            body = Writer(seed, ('x', 'y')).expression(5, ())
            self.assertEqual(count(body), 1 + sum(count(inner) for _, inner in children(body)))
            paths = [path for path, _ in children(body)]
            self.assertEqual(paths, sorted(paths))
            for path, inner in children(body):
                self.assertEqual(subtree(body, path), inner)
                self.assertIsInstance(path, tuple)

    def test_deep_trees(self):
        body = ONE
        for _ in range(3000):
            body = ('plus', body, 1)
        self.assertEqual(count(body), 3001)
        self.assertTrue(look_body(Book(()), body))


class BookTest(unittest.TestCase):
    def test_book(self):
        one = ('one', (), None, ONE)
        two = ('two', ('x', 'y'), 1, ('tuple', (X, ('name', 'y'))))
        book = Book([one, two])
        self.assertEqual(book.definitions, (one, two))
        self.assertIsInstance(book.definitions, tuple)
        self.assertEqual(len(book), 2)
        self.assertEqual(book['two'], two)
        self.assertEqual(book, Book((one, two)))
        self.assertNotEqual(book, Book((two, one)))
        self.assertNotEqual(book, (one, two))
        self.assertEqual(Book(()), Book([]))
        self.assertEqual(len(Book(())), 0)

    def test_a_lacking_definition(self):
        with self.assertRaises(NoCell) as caught:
            Book((('one', (), None, ONE),))['two']
        self.assertEqual(caught.exception.name, 'two')

    def test_later_changes_of_the_list(self):
        given = [('one', (), None, ONE)]
        book = Book(given)
        given.append(('two', (), None, ONE))
        given[0] = None
        self.assertEqual(book.definitions, (('one', (), None, ONE),))

    def test_first_five_reasons(self):
        good = ('g', ('x',), 0, X)
        for bad in (5, None, True, 'abcd', (), ('f', (), None), ('f', (), None, ONE, ONE), ('f', 'x', None, ONE),
                    ('f', None, None, ONE), (5, 'x', 7, 8)):
            self.assertEqual(wrong((good, bad)), ('form', '', ()), bad)
        for name in ('', 'F', 'toolongaa', 5, None, True, ('f',)):
            self.assertEqual(wrong((good, (name, (), None, ONE))), ('name', name, ()), name)
        self.assertEqual(wrong((good, ('g', (), None, ONE))), ('twice', 'g', ()))
        for names in (('x', 'x'), ('x', 'y', 'x'), ('x', 5), (None,), ('X',), (True,), (('x',),)):
            self.assertEqual(wrong((good, ('f', names, None, ONE))), ('parameter', 'f', ()), names)
        for falls in (2, -1, True, False, 'x', (), (0,)):
            self.assertEqual(wrong((good, ('f', ('x', 'y'), falls, ONE))), ('falls', 'f', ()), falls)
        self.assertEqual(wrong((('f', (), 0, ONE),)), ('falls', 'f', ()))
        self.assertIsNone(wrong((('f', ('x', 'y'), 1, ONE),)))

    def test_order_of_the_reasons(self):
        self.assertEqual(wrong((('F', ('x', 'x'), 5, ()),)), ('name', 'F', ()))
        g = ('g', (), None, ONE)
        self.assertEqual(wrong((g, ('g', ('x', 'x'), 5, ()))), ('twice', 'g', ()))
        self.assertEqual(wrong((('f', ('x', 'x'), 5, ()),)), ('parameter', 'f', ()))
        self.assertEqual(wrong((('f', ('x',), 5, ()),)), ('falls', 'f', ()))
        self.assertEqual(wrong((('f', ('x',), 0, ()),)), ('form', 'f', ()))
        # The first wrong definition counts, not the first reason.
        self.assertEqual(wrong((('f', (), None, ('name', 'x')), ('F', (), None, ONE))), ('unknown', 'f', ()))
        self.assertEqual(wrong((g, ('f', (), None, ONE), ('f', (), None, ONE), 5)), ('twice', 'f', ()))

    def test_errors_are_of_the_family(self):
        with self.assertRaises(LoreError):
            Book((5,))
        with self.assertRaises(ValueError):
            look_body(Book(()), ())


class FormTest(unittest.TestCase):
    def test_good_bodies(self):
        for body in (
                ONE, ('atom', 'red'), ('plus', ONE, -3), ('tuple', ()), ('part', ONE, 0), ('join', ONE, ONE),
                ('read', 'n'), ('reach', ONE), ('let', 'x', ONE, X), ('if', YES, ONE, ONE), ('each', 'x', ONE, X),
                ('pick', 'x', ONE, ('is', 'tuple', X)), ('fold', 'a', ONE, 'x', ONE, ('tuple', (('name', 'a'), X))),
                ('fail', 'long'), ('if', ('sized', ONE, 0), ONE, ONE), ('if', ('most', ONE, -1, ONE), ONE, ONE),
                ('if', ('alike', ONE, ONE), ONE, ONE), ('if', ('not', YES), ONE, ONE),
                ('if', ('both', YES, YES), ONE, ONE), ('if', ('either', YES, YES), ONE, ONE),
                ('let', 'if', ONE, ('name', 'if'))):
            self.assertIsNone(wrong_body(body), body)

    def test_wrong_forms_at_the_root(self):
        for body in (
                None, True, 5, '', 'int', (), ('',), (5,), (None, 1), (('int',), 1), ('int',), ('int', 1, 2), ('nope', 1),
                ('int', True), ('int', None), ('int', 'a'), ('int', (1,)), ('atom', 5), ('atom', 'Red'), ('atom', True),
                ('atom', ''), ('atom', 'toolongaa'), ('name', 5), ('name', None), ('name',), ('plus', ONE),
                ('plus', ONE, True), ('plus', ONE, None), ('plus', ONE, 'a'), ('plus', ONE, ONE), ('tuple', ONE[0]),
                ('tuple', 5), ('tuple',), ('tuple', None), ('part', ONE, -1), ('part', ONE, True), ('part', ONE, None),
                ('part', ONE), ('join', ONE), ('join', ONE, ONE, ONE), ('read', 5), ('read', ()), ('read', 'N'),
                ('read', 'n', 1), ('reach',), ('reach', ONE, ONE), ('call', 'f'), ('call', 5, ()), ('call', 'f', ONE[0]),
                ('call', 'f', 7), ('call', 'f', (), 1), ('let', 'x', ONE), ('let', 5, ONE, ONE), ('let', 'X', ONE, ONE),
                ('if', YES, ONE), ('if', YES, ONE, ONE, ONE), ('each', 'x', ONE), ('each', ONE, ONE, ONE),
                ('each', None, ONE, ONE), ('pick', 'x', ONE), ('pick', '', ONE, YES), ('fold', 'a', ONE, 'x', ONE),
                ('fold', 5, ONE, 'x', ONE, ONE), ('fold', 'a', ONE, 5, ONE, ONE), ('fold', 'a', 'x', ONE, ONE, ONE),
                ('fail', 5), ('fail', ''), ('fail',), ('fail', 'no', 1)):
            self.assertEqual(wrong_body(body), ('form', ()), body)

    def test_wrong_forms_of_tests(self):
        for test in (
                None, False, 5, 'is', (), ('is', 'integer'), ('is', 'fault', ONE), ('is', 'Integer', ONE), ('is', 0, ONE),
                ('is', None, ONE), ('is', ('tuple',), ONE), ('is', 'tuple', ONE, ONE), ('sized', ONE), ('sized', ONE, -1),
                ('sized', ONE, False), ('sized', ONE, 'a'), ('most', ONE, ONE), ('most', ONE, True, ONE),
                ('most', ONE, None, ONE), ('most', ONE, 0), ('most', ONE, 0, ONE, ONE), ('alike', ONE),
                ('alike', ONE, ONE, ONE), ('not',), ('not', YES, YES), ('both', YES), ('both', YES, YES, YES),
                ('either', YES), ('either',)):
            self.assertEqual(wrong_body(('if', test, ONE, ONE)), ('form', (1,)), test)

    def test_tests_and_expressions_in_each_others_place(self):
        self.assertEqual(wrong_body(YES), ('form', ()))
        self.assertEqual(wrong_body(('not', YES)), ('form', ()))
        for tree, path in (
                (('plus', YES, 1), (1,)), (('tuple', (ONE, YES)), (1, 1)), (('part', YES, 0), (1,)),
                (('join', ONE, YES), (2,)), (('reach', YES), (1,)), (('let', 'x', YES, X), (2,)),
                (('let', 'x', ONE, YES), (3,)), (('if', YES, YES, ONE), (2,)), (('if', YES, ONE, YES), (3,)),
                (('if', ONE, ONE, ONE), (1,)), (('each', 'x', YES, ONE), (2,)), (('each', 'x', ONE, YES), (3,)),
                (('pick', 'x', YES, YES), (2,)), (('pick', 'x', ONE, X), (3,)),
                (('fold', 'a', YES, 'x', ONE, ONE), (2,)), (('fold', 'a', ONE, 'x', YES, ONE), (4,)),
                (('fold', 'a', ONE, 'x', ONE, YES), (5,)), (('if', ('is', 'atom', YES), ONE, ONE), (1, 2)),
                (('if', ('sized', YES, 0), ONE, ONE), (1, 1)), (('if', ('most', ONE, 0, YES), ONE, ONE), (1, 3)),
                (('if', ('alike', YES, ONE), ONE, ONE), (1, 1)), (('if', ('not', ONE), ONE, ONE), (1, 1)),
                (('if', ('both', YES, ONE), ONE, ONE), (1, 2)), (('if', ('either', X, YES), ONE, ONE), (1, 1))):
            self.assertEqual(wrong_body(tree), ('form', path), tree)

    def test_wrong_trees_deep_inside(self):
        for inner in ((), ('int', True), YES, ('nope',), ('tuple', [])):
            body = ('let', 'a', ('tuple', (ONE, ('plus', inner, 1))), ('name', 'a'))
            self.assertEqual(wrong_body(body), ('form', (2, 1, 1, 1)), inner)

    def test_a_tree_comes_before_those_inside_it(self):
        self.assertEqual(wrong_body(('plus', (), True)), ('form', ()))
        self.assertEqual(wrong_body(('join', ('name', 'x'), ())), ('unknown', (1,)))
        self.assertEqual(wrong_body(('join', ('plus', ('name', 'x'), 1), ())), ('unknown', (1, 1)))
        self.assertEqual(wrong_body(('join', ('plus', ONE, 1), ())), ('form', (2,)))
        self.assertEqual(wrong_body(('call', 'f', ((), ()))), ('call', ()))
        self.assertEqual(wrong_body(('tuple', (('tuple', (ONE, ())), ()))), ('form', (1, 0, 1, 1)))


class NameTest(unittest.TestCase):
    def test_unknown_names(self):
        self.assertEqual(wrong_body(X), ('unknown', ()))
        self.assertEqual(wrong_body(('let', 'x', X, ONE)), ('unknown', (2,)))
        self.assertEqual(wrong_body(('each', 'x', X, ONE)), ('unknown', (2,)))
        self.assertEqual(wrong_body(('pick', 'x', X, YES)), ('unknown', (2,)))
        for at in (2, 4):
            fold = ['fold', 'a', ONE, 'x', ONE, ONE]
            for name in ('a', 'x'):
                fold[at] = ('name', name)
                self.assertEqual(wrong_body(tuple(fold)), ('unknown', (at,)))
        self.assertEqual(wrong_body(('tuple', (('let', 'x', ONE, X), X))), ('unknown', (1, 1)))
        self.assertIsNone(wrong_body(('let', 'x', ONE, ('let', 'y', X, ('tuple', (X, ('name', 'y')))))))

    def test_a_definition_knows_its_parameters_only(self):
        self.assertEqual(wrong((('f', ('x',), None, ('name', 'y')),)), ('unknown', 'f', ()))
        self.assertIsNone(wrong((('f', ('x',), None, X),)))

    def test_bound(self):
        both = ('let', 'x', ONE, ('let', 'x', ONE, X))
        self.assertEqual(wrong_body(both), ('bound', (3,)))
        # Not only names that are still bound there.
        self.assertEqual(wrong_body(('tuple', (('let', 'x', ONE, X), ('each', 'x', ONE, X)))), ('bound', (1, 1)))
        self.assertEqual(wrong_body(('let', 'x', ('let', 'x', ONE, X), X)), ('bound', (2,)))
        self.assertEqual(wrong_body(('fold', 'a', ONE, 'a', ONE, ONE)), ('bound', ()))
        self.assertEqual(wrong_body(('fold', 'a', ONE, 'b', ONE, ('pick', 'b', ONE, YES))), ('bound', (5,)))
        self.assertEqual(wrong_body(('fold', 'a', ONE, 'b', ONE, ('let', 'a', ONE, ONE))), ('bound', (5,)))
        self.assertEqual(wrong((('f', ('x',), None, ('let', 'x', ONE, X)),)), ('bound', 'f', ()))
        self.assertEqual(wrong((('f', ('x',), None, ('fold', 'a', ONE, 'x', ONE, X)),)), ('bound', 'f', ()))
        # Definitions and cells have names of their own.
        self.assertIsNone(wrong((('f', ('x',), None, X), ('g', ('y',), None, ('let', 'x', ONE, X)))))

    def test_bound_comes_before_what_is_inside(self):
        self.assertEqual(wrong_body(('fold', 'a', (), 'a', ONE, ONE)), ('bound', ()))
        self.assertEqual(wrong_body(('let', 'x', X, ('let', 'x', ONE, X))), ('unknown', (2,)))

    def test_reads_are_not_looked_at(self):
        self.assertIsNone(wrong_body(('read', 'nowhere')))


class CallTest(unittest.TestCase):
    def test_calls_of_definitions(self):
        f = ('f', ('x',), None, X)
        call = ('call', 'f', (ONE,))
        g = ('g', (), None, call)
        self.assertIsNone(wrong((f, g)))
        self.assertEqual(wrong((g, f)), ('call', 'g', ()))
        self.assertEqual(wrong((('f', ('x',), None, call),)), ('call', 'f', ()))
        self.assertEqual(wrong((f, ('h', (), None, ('plus', ('call', 'k', ()), 1)))), ('call', 'h', (1,)))
        self.assertEqual(wrong((f, ('h', (), None, ('call', 'f', ())))), ('arguments', 'h', ()))
        self.assertEqual(wrong((f, ('h', (), None, ('call', 'f', (ONE, ONE))))), ('arguments', 'h', ()))
        book = Book((f, g))
        self.assertIsNone(wrong_body(call, book))
        self.assertIsNone(wrong_body(('call', 'g', ()), book))
        self.assertEqual(wrong_body(('call', 'h', ()), book), ('call', ()))
        self.assertEqual(wrong_body(('tuple', (('call', 'g', (ONE,)),)), book), ('arguments', (1, 0)))

    def test_a_cell_may_have_the_name_of_a_definition(self):
        book = Book((('f', ('x',), 0, ('call', 'f', (('part', X, 0),))),))
        self.assertTrue(look_body(book, ('call', 'f', (ONE,)), name='f'))

    def test_the_name_of_the_error(self):
        with self.assertRaises(NoBook) as caught:
            look_body(Book(()), X)
        e = caught.exception
        self.assertEqual((e.word, e.name, e.path), ('unknown', '', ()))

    def test_calls_of_itself(self):
        p, q = ('name', 'p'), ('name', 'q')
        part = ('part', p, 0)

        def call(one, other=q):
            return ('call', 'f', (one, other))

        self.assertIsNone(falling(call(part)))
        self.assertIsNone(falling(call(('part', part, 3))))
        self.assertIsNone(falling(('call', 'f', (ONE, ('part', q, 1))), 1))
        self.assertEqual(falling(call(part), None), ('call', ()))
        for bad in (p, q, ONE, ('part', q, 0), ('part', ONE, 0), ('plus', part, 0), ('tuple', (part,)), ('join', part, part),
                    ('part', ('tuple', (p,)), 0), ('if', YES, part, part), ('read', 'p'), ('part', ('read', 'p'), 0),
                    ('each', 'z', p, ('name', 'z')), ('fold', 'a', p, 'x', p, ('name', 'a')), ('call', 'f', (part, q))):
            self.assertEqual(falling(call(bad)), ('piece', ()), bad)
        self.assertEqual(falling(('call', 'f', (part,))), ('arguments', ()))
        self.assertEqual(falling(('plus', call(p), 1)), ('piece', (1,)))
        # The other argument is free; calls inside it are looked at by themselves.
        self.assertEqual(falling(call(part, call(p))), ('piece', (2, 1)))
        self.assertIsNone(falling(call(part, call(part))))

    def test_pieces_by_loops(self):
        p = ('name', 'p')
        x = ('name', 'x')
        call = ('call', 'f', (x, ONE))
        self.assertIsNone(falling(('each', 'x', p, call)))
        self.assertIsNone(falling(('each', 'x', ('part', p, 0), call)))
        self.assertEqual(falling(('each', 'x', ('name', 'q'), call)), ('piece', (3,)))
        self.assertEqual(falling(('each', 'x', ('tuple', (p,)), call)), ('piece', (3,)))
        self.assertIsNone(falling(('pick', 'x', p, ('is', 'atom', call))))
        self.assertEqual(falling(('pick', 'x', ('name', 'q'), ('is', 'atom', call))), ('piece', (3, 2)))
        self.assertIsNone(falling(('fold', 'a', ONE, 'x', p, call)))
        self.assertEqual(falling(('fold', 'x', p, 'a', p, call)), ('piece', (5,)))
        self.assertEqual(falling(('fold', 'a', p, 'x', ONE, call)), ('piece', (5,)))
        of_part = ('call', 'f', (('part', x, 0), ONE))
        self.assertEqual(falling(('fold', 'x', p, 'a', p, of_part)), ('piece', (5,)))
        self.assertEqual(falling(('each', 'x', ('name', 'q'), of_part)), ('piece', (3,)))
        self.assertEqual(falling(('each', 'x', ('tuple', (p,)), of_part)), ('piece', (3,)))
        self.assertEqual(falling(of_part), ('piece', ()))
        # What a loop over a piece holds is a piece, and so are its parts.
        inner = ('each', 'y', ('name', 'x'), ('call', 'f', (('part', ('name', 'y'), 2), ONE)))
        self.assertIsNone(falling(('each', 'x', p, inner)))

    def test_pieces_by_let(self):
        p = ('name', 'p')
        x = ('name', 'x')
        part = ('part', p, 1)
        self.assertIsNone(falling(('let', 'x', part, ('call', 'f', (x, ONE)))))
        self.assertEqual(falling(('let', 'x', p, ('call', 'f', (x, ONE)))), ('piece', (3,)))
        self.assertIsNone(falling(('let', 'x', p, ('call', 'f', (('part', x, 0), ONE)))))
        self.assertIsNone(falling(('call', 'f', (('let', 'x', p, ('part', x, 0)), ONE))))
        self.assertIsNone(falling(('call', 'f', (('part', ('let', 'x', ONE, p), 0), ONE))))
        self.assertEqual(falling(('call', 'f', (('let', 'x', part, ONE), ONE))), ('piece', ()))
        self.assertEqual(falling(('call', 'f', (('let', 'x', ONE, x), ONE))), ('piece', ()))
        self.assertIsNone(falling(('let', 'x', ('let', 'y', p, ('part', ('name', 'y'), 0)), ('call', 'f', (x, ONE)))))
        self.assertIsNone(falling(('let', 'x', part, ('each', 'y', x, ('call', 'f', (('name', 'y'), ONE))))))

    def test_arguments_that_are_wrong_themselves(self):
        p = ('name', 'p')

        def call(one):
            return ('call', 'f', (one, ONE))

        # What has no form is no piece, and the call comes before what is inside it.
        for bad in ((), ('part', p, True), ('part', p, -1), ('part', p), ('name', 5), ('let', 'X', p, ('part', p, 0)),
                    ('part', ('name', 'p', 1), 0), ('part', ('let', 5, ONE, p), 0), None, 5, YES):
            self.assertEqual(falling(call(bad)), ('piece', ()), bad)
        # Trees inside are left aside.
        self.assertEqual(falling(call(('let', 'x', (), ('part', p, 0)))), ('form', (2, 0, 2)))
        self.assertEqual(falling(call(('part', ('let', 'p', ONE, ('name', 'p')), 0))), ('piece', ()))
        self.assertEqual(falling(call(('let', 'p', p, ('part', p, 0)))), ('bound', (2, 0)))
        self.assertEqual(falling(('let', 'x', ONE, call(('let', 'x', p, ('part', ('name', 'x'), 0))))), ('bound', (3, 2, 0)))


class RunTest(unittest.TestCase):
    """Promises [11] to [14] over bodies of texts and books that were checked."""

    def test_depth_of_a_tree(self):
        deep = text('( fold m 0 x t ( let d ( call deep ( x ) ) ( if ( most d 0 m ) m d ) ) )'.replace('( x )', 'x'))
        body = ('if', ('is', 'tuple', ('name', 't')), ('plus', deep, 1), ('int', 0))
        book = Book((('deep', ('t',), 0, body),))
        call = text('( call deep ( read v ) )')
        self.assertTrue(look_body(book, call))
        for value, want in ((5, 0), ((), 1), ((1, (2, (3,)), ()), 3)):
            self.assertEqual(plain(book, call, {'v': value}), want)

    def test_texts_that_run(self):
        book = Book((('twice', ('n',), None, text('( tuple n n )')),))
        given = {'t': (3, -1, 'red', (2,))}
        for words, want in (
                ('( each x ( read t ) ( call twice x ) )', ((3, 3), (-1, -1), ('red', 'red'), ((2,), (2,)))),
                ('( pick x ( read t ) ( is integer x ) )', (3, -1)),
                ("( if ( alike ( part ( read t ) 2 ) 'red ) 'yes 'no )", 'yes'),
                ("( reach 't )", (3, -1, 'red', (2,))),
                ('( plus ( part ( read t ) 1 ) -4 )', -5)):
            self.assertEqual(plain(book, text(words), given), want, words)
        for words, want in (
                ('( part ( read t ) 4 )', ('part', ())), ('( tuple ( plus ( read t ) 1 ) )', ('kind', (1, 0))),
                ("( reach 'u )", ('name', ())), ('( fail red )', ('red', ()))):
            fault = plain(book, text(words), given, rule='c')
            self.assertEqual((fault.word, fault.path, fault.rule), (*want, 'c'), words)

    def test_random_bodies_are_right(self):
        """Bodies that bind each name once and know their names are right; then one name is spoilt."""
        for seed in range(300):
            writer = Writer(seed, ('x', 'y'))
            one = ('d', ('p', 'q'), None, writer.expression(3, ('p', 'q')))
            body = writer.expression(5, (), (('d', 2),))
            book = Book((one,))
            self.assertTrue(look_body(book, body))
            paths = [path for path, _ in children(body)]
            if paths:
                path = random.Random(seed).choice(paths)
                self.assertEqual(wrong_body(replaced(body, path, ('name', 'zz')), book)[1], path)


def replaced(tree, path, other):
    if not path:
        return other
    index = path[0]
    return (*tree[:index], replaced(tree[index], path[1:], other), *tree[index + 1:])


if __name__ == '__main__':
    unittest.main()
