"""Texts of expressions: promise [18]."""

import random
import unittest

from reference import Writer
from runlore.errors import NoText
from runlore.treetexts import read_expression, show_expression

SHAPES = {
    'plus': 'E i', 'tuple': '*', 'part': 'E k', 'join': 'E E', 'read': 'n', 'reach': 'E', 'call': 'n *', 'let': 'n E E',
    'if': 'G E E', 'each': 'n E E', 'pick': 'n E G', 'fold': 'n E n E E', 'fail': 'n'}
TESTS = {'is': 'w E', 'sized': 'E k', 'most': 'E i E', 'alike': 'E E', 'not': 'G', 'both': 'G G', 'either': 'G G'}


def wrong_at(text):
    try:
        read_expression(text)
    except NoText as e:
        return e.at
    return None


def is_name(word):
    return 1 <= len(word) <= 8 and all(letter in 'abcdefghijklmnopqrstuvwxyz' for letter in word)


def is_integer(word):
    digits = word[1:] if word.startswith('-') else word
    good = digits and all(digit in '0123456789' for digit in digits) and len(digits) <= 18
    return bool(good) and str(int(word)) == word


def successors(stack, word):
    """The stacks of what must still follow, with its depth, that a word can leave; most of them are dead ends."""
    if not stack:
        return []
    (sort, depth), rest = stack[0], stack[1:]
    if sort == '*':
        found = [rest[1:]] if word == ')' else []
        return found + successors((('E', depth),) + stack, word)
    if sort in ('head E', 'head G'):
        shape = (SHAPES if sort == 'head E' else TESTS).get(word)
        if shape is None:
            return []
        return [tuple((part, depth) for part in shape.split()) + rest]
    if word == '(' and sort in 'EG':
        return [(('head ' + sort, depth + 1), (')', depth + 1)) + rest]
    fits = {
        'E': is_integer(word) or is_name(word) or (word.startswith("'") and is_name(word[1:])), 'n': is_name(word),
        'i': is_integer(word), 'k': is_integer(word) and word[0] != '-', 'w': word in ('integer', 'atom', 'tuple'),
        ')': word == ')'}
    return [rest] if fits.get(sort) else []


def can_end(stack):
    """Whether what must follow can follow with at most 40 brackets inside one another."""
    return all(depth + (sort == 'G') <= 40 for sort, depth in stack)


def first_wrong(text):
    """The index that NoText must have, by trying all ways to go on."""
    words = text.split(' ')
    stacks = [(('E', 0),)]
    for at, word in enumerate(words):
        stacks = [new for stack in stacks for new in successors(stack, word) if can_end(new)]
        if not stacks:
            return at
    return None if () in stacks else len(words)


class TextTest(unittest.TestCase):
    def test_example(self):
        self.assertEqual(
            read_expression('( if ( most x 0 y ) x ( plus y -1 ) )'),
            ('if', ('most', ('name', 'x'), 0, ('name', 'y')), ('name', 'x'), ('plus', ('name', 'y'), -1)))
        with self.assertRaises(NoText) as caught:
            read_expression('( if x y z )')
        self.assertEqual(caught.exception.at, 2)

    def test_each_form(self):
        x, one = ('name', 'x'), ('int', 1)
        for text, tree in (
                ('5', ('int', 5)), ('-5', ('int', -5)), ('0', ('int', 0)), ("'red", ('atom', 'red')), ('x', x),
                ('if', ('name', 'if')), ("'if", ('atom', 'if')), ('( tuple )', ('tuple', ())),
                ('( tuple x 1 )', ('tuple', (x, one))), ('( part x 0 )', ('part', x, 0)), ('( join x 1 )', ('join', x, one)),
                ('( read n )', ('read', 'n')), ("( reach 'n )", ('reach', ('atom', 'n'))), ('( call d )', ('call', 'd', ())),
                ('( call d x 1 )', ('call', 'd', (x, one))), ('( let x 1 x )', ('let', 'x', one, x)),
                ('( each x 1 x )', ('each', 'x', one, x)), ('( fail red )', ('fail', 'red')),
                ('( pick x 1 ( is tuple x ) )', ('pick', 'x', one, ('is', 'tuple', x))),
                ('( fold a 1 x 1 x )', ('fold', 'a', one, 'x', one, x)),
                ('( if ( sized x 2 ) x 1 )', ('if', ('sized', x, 2), x, one)),
                ("( if ( not ( alike x 'a ) ) x 1 )", ('if', ('not', ('alike', x, ('atom', 'a'))), x, one)),
                ('( if ( both ( is atom x ) ( is integer x ) ) x 1 )',
                 ('if', ('both', ('is', 'atom', x), ('is', 'integer', x)), x, one)),
                ('( if ( either ( is atom x ) ( most x -3 1 ) ) x 1 )',
                 ('if', ('either', ('is', 'atom', x), ('most', x, -3, one)), x, one))):
            self.assertEqual(read_expression(text), tree)
            self.assertEqual(show_expression(tree), text)
        self.assertEqual(show_expression(tree=('int', 3)), '3')
        self.assertEqual(read_expression(text='3'), ('int', 3))

    def test_no_words(self):
        for text, at in (
                ('', 0), (' ', 0), (' 1', 0), ('1 ', 1), ('1  2', 1), ('( tuple  )', 2), ('( tuple ) ', 3), ('( tuple', 2),
                ('(', 1), ('( if', 2), ('( tuple 1', 3), ('( plus 1', 3), ('1 1', 1), ('x y', 1), ('( tuple ) )', 3),
                (')', 0), ('( )', 1), ('( 1 )', 1), ('( x )', 1), ('( int 1 )', 1), ('( atom a )', 1), ('( name x )', 1),
                ('( is integer x )', 1), ('( not x )', 1), ('( plus x y )', 3), ('( plus x )', 3), ("( plus x 'a )", 3),
                ('( plus x 1 2 )', 4), ('( part x -1 )', 3), ('( part x -0 )', 3), ("( read 'a )", 2), ('( read 1 )', 2),
                ('( read )', 2), ('( let 1 x x )', 2), ('( let x 1 )', 4), ('( call )', 2), ("( call 'd )", 2),
                ('( if 1 2 3 )', 2), ('( if ( tuple ) 2 3 )', 3), ('( if ( is fault x ) 2 3 )', 4),
                ('( if ( is x ) 2 3 )', 4), ('( if ( sized x -1 ) 2 3 )', 5), ('( pick x y z )', 4),
                ('( each x y ( is tuple x ) )', 5), ('( fail )', 2), ('( fail toolongaa )', 2), ('(tuple )', 0),
                ('( tuple x)', 2), ('( Tuple )', 1), ('\n', 0), ('( tuple\t)', 1), ('+1', 0), ('1.', 0), ('--1', 0), ('-', 0),
                ("'", 0), ("''a", 0), ("'A", 0), ("'toolongaa", 0), ('toolongaa', 0), ('aaaaaaaa', None), ('1a', 0),
                ('a1', 0), ('( reach ( is atom x ) )', 3)):
            self.assertEqual(wrong_at(text), at, text)
            self.assertEqual(first_wrong(text), at, text)

    def test_integers(self):
        long = '9' * 18
        for text in (long, '-' + long, '1' + '0' * 17, '10', '-10'):
            self.assertEqual(read_expression(text), ('int', int(text)))
            self.assertEqual(show_expression(('int', int(text))), text)
        for text in ('9' * 19, '-' + '9' * 19, '-0', '00', '01', '-01', '0' * 18, '1' + '0' * 18):
            self.assertEqual(wrong_at(text), 0, text)
            self.assertEqual(wrong_at('( plus x ' + text), 3, text)
        self.assertEqual(read_expression(f'( part x {long} )'), ('part', ('name', 'x'), int(long)))
        self.assertEqual(wrong_at(f'( part x 1{long} )'), 3)

    def test_brackets_inside_one_another(self):
        def nested(many, inner):
            return '( tuple ' * many + inner + ' )' * many

        for inner in ('x', '1', "'a"):
            self.assertEqual(show_expression(read_expression(nested(40, inner))), nested(40, inner))
        self.assertEqual(read_expression(nested(39, '( tuple )')), read_expression(nested(40, '').replace('  ', ' ')))
        self.assertEqual(wrong_at(nested(41, 'x')), 80)
        self.assertEqual(wrong_at(nested(40, '( tuple )')), 80)
        # A bracket that needs another one inside needs room for both.
        self.assertIsNone(wrong_at(nested(38, '( if ( is atom x ) 1 1 )')))
        self.assertEqual(wrong_at(nested(39, '( if ( is atom x ) 1 1 )')), 79)
        self.assertEqual(wrong_at(nested(39, '( pick x 1 ( is atom x ) )')), 79)
        self.assertIsNone(wrong_at(nested(37, '( if ( not ( is atom x ) ) 1 1 )')))
        for test in ('not ( is atom x )', 'both ( is atom x ) ( is atom x )', 'either ( is atom x ) ( is atom x )'):
            self.assertEqual(wrong_at(nested(38, f'( if ( {test} ) 1 1 )')), 79, test)
        self.assertEqual(wrong_at(nested(38, '( if ( is atom ( tuple ) ) 1 1 )')), 81)
        # Brackets beside one another do not count.
        self.assertIsNone(wrong_at('( tuple' + ' ( tuple )' * 100 + ' )'))

    def test_texts_and_trees_against_each_other(self):
        for seed in range(500):
            tree = Writer(seed, ('x', 'y')).expression(6, ())
            text = show_expression(tree)
            self.assertEqual(read_expression(text), tree)
            self.assertIsNone(first_wrong(text))

    def test_deep_trees_are_shown(self):
        tree = ('int', 1)
        for _ in range(2000):
            tree = ('tuple', (tree,))
        self.assertEqual(len(show_expression(tree).split(' ')), 6001)

    def test_spoilt_texts(self):
        """Words are replaced, left out, put in and cut off; the index is that of a plain search."""
        words = ['(', ')', '1', '-1', '-0', 'x', "'a", 'if', 'is', 'tuple', 'integer', 'not', 'call', '', '( not', 'fold']
        found = {}
        for seed in range(1500):
            chance = random.Random(seed)
            text = show_expression(Writer(seed, ('x', 'y')).expression(4, ())).split(' ')
            if chance.random() < 0.2:
                text = ['(', 'tuple'] * chance.randint(30, 40) + text
            at = chance.randrange(len(text) + 1)
            text = chance.choice((
                text[:at], text[:at] + [chance.choice(words)] + text[at:], text[:at] + [chance.choice(words)] + text[at + 1:],
                text[:at] + text[at + 1:]))
            text = ' '.join(text)
            self.assertEqual(wrong_at(text), first_wrong(text), text)
            kind = 'good' if first_wrong(text) is None else 'end' if first_wrong(text) == text.count(' ') + 1 else 'word'
            found[kind] = found.get(kind, 0) + 1
        self.assertGreater(min(found[kind] for kind in ('good', 'end', 'word')), 50, found)


if __name__ == '__main__':
    unittest.main()
