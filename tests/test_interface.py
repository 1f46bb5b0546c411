"""The interface: each name stands in its file, each listed method in its class, with the listed arguments."""

import importlib
import inspect
import unittest

FUNCTIONS = {
    'values': {'is_value': 'thing', 'kind_of': 'value', 'depth_of': 'value', 'is_before': 'one other'},
    'places': {'is_place': 'thing', 'value_at': 'inputs place', 'with_part': 'inputs place value'},
    'runner': {'plain': 'book body given *rule'},
    'trees': {
        'children': 'tree', 'subtree': 'tree path', 'count': 'tree', 'look_body': 'book body *name'},
    'treetexts': {'show_expression': 'tree', 'read_expression': 'text'},
    'watcher': {'watched': 'sheet cell given', 'walked': 'sheet cell notes'},
    'tables': {
        'table': 'sheet cell box *region *most', 'uncovered': 'sheet cell clauses box *most',
        'witnesses': 'clauses box'},
    'sameness': {'same': 'sheet cell other other_cell box *most'},
    'preimages': {'preimage': 'sheet cell goal box *most'},
    'composing': {'composed': 'sheet cell given *most'},
    'margins': {'margin': 'sheet cell given place *most'},
    'wishes': {'wish': 'sheet cell given goal *most'},
    'rest': {'rest': 'sheet cell region box *most'},
    'checker': {
        'holds_clause': 'sheet cell answer', 'holds_table': 'sheet cell box answer',
        'holds_same': 'sheet cell other other_cell box answer', 'holds_composed': 'sheet cell answer',
        'holds_margin': 'sheet cell given place answer', 'holds_wish': 'sheet cell given goal answer',
        'holds_code': 'clauses answer'},
}
CLASSES = {
    'values': {'Fault': ('word rule path', '__eq__ __str__ __repr__')},
    'terms': {
        'Term': (None, ''),
        'Literal': ('value', '__call__ __eq__ __str__'), 'Whole': ('place', '__call__ __eq__ __str__'),
        'Shifted': ('place by', '__call__ __eq__ __str__'), 'Built': ('parts', '__call__ __eq__ __str__')},
    'kindsets': {'Kinds': (None, 'everything present of sized __and__ __or__ __sub__ __contains__ __eq__ __bool__ '
                                 '__str__ only size least within')},
    'regions': {'Region': ('words', '__contains__ __bool__ __and__ __sub__ __eq__ words least within kinds with_word '
                                    'implies written distinguish substituted')},
    'clauses': {'Clause': ('notes result', '__contains__ __call__ __eq__')},
    'errors': {name: (None, '') for name in (
        'LoreError NoText NoBook NoSheet NoWord NoNote NoInput TooMany TooBig NoPlace NoCell').split()},
    'trees': {'Book': ('definitions', '__len__ __getitem__ __eq__')},
    'boxes': {'Box': ('size depth', 'fits kinds narrowed all_inputs')},
    'sheets': {'Sheet': ('book inputs cells', '__eq__ body rewritten redefined answer answers knots')},
    'lore': {'Lore': ('clauses', 'learn walk forget clauses __len__ __contains__ __eq__')},
    'codes': {'Code': (None, 'of __len__ __eq__'), 'Machine': ('code ask', 'step run')},
    'engine': {
        'Engine': ('sheet given', 'ask runs lore edit clear edit_part rewrite redefine undo forget take_in trial in_trial '
                                  '__len__ __eq__ given'),
        'Trial': (None, 'keep __enter__ __exit__')},
}
METHODS = {
    ('kindsets', 'Kinds'): {'everything': '', 'present': '', 'of': 'word', 'sized': 'k', 'within': 'self other'},
    ('regions', 'Region'): {
        'within': 'self other', 'kinds': 'self p', 'with_word': 'self word', 'implies': 'self word',
        'written': 'self term', 'distinguish': 'self one other', 'substituted': 'self name result base'},
    ('terms', 'Literal'): {'__call__': 'self inputs'},
    ('terms', 'Whole'): {'__call__': 'self inputs'},
    ('terms', 'Shifted'): {'__call__': 'self inputs'},
    ('terms', 'Built'): {'__call__': 'self inputs'},
    ('clauses', 'Clause'): {'__call__': 'self inputs'},
    ('boxes', 'Box'): {
        'fits': 'self value', 'kinds': 'self place', 'narrowed': 'self region',
        'all_inputs': 'self names integers atoms *faults'},
    ('sheets', 'Sheet'): {
        'body': 'self name', 'rewritten': 'self name body', 'redefined': 'self definition',
        'answer': 'self cell given', 'answers': 'self given', 'knots': 'self given'},
    ('lore', 'Lore'): {'learn': 'self clause', 'walk': 'self inputs', 'forget': 'self clause', 'clauses': 'self'},
    ('codes', 'Code'): {'of': 'clauses'},
    ('codes', 'Machine'): {'step': 'self', 'run': 'self'},
    ('engine', 'Engine'): {
        'ask': 'self cell', 'runs': 'self', 'lore': 'self cell', 'edit': 'self name value', 'clear': 'self name',
        'edit_part': 'self place value', 'rewrite': 'self cell body', 'redefine': 'self definition', 'undo': 'self',
        'forget': 'self', 'take_in': 'self cell clauses', 'trial': 'self', 'in_trial': 'self work'},
    ('engine', 'Trial'): {'keep': 'self'},
}


def module(name):
    return importlib.import_module('runlore.' + name)


def arguments(thing):
    parameters = inspect.signature(thing).parameters.values()
    return ' '.join(('*' if one.kind is one.KEYWORD_ONLY else '') + one.name for one in parameters)


class InterfaceTest(unittest.TestCase):
    def test_functions(self):
        for name, listed in FUNCTIONS.items():
            for word, shape in listed.items():
                function = getattr(module(name), word)
                self.assertEqual(function.__module__, 'runlore.' + name)
                self.assertEqual(arguments(function), shape, word)

    def test_classes(self):
        for name, listed in CLASSES.items():
            for word, (shape, methods) in listed.items():
                kind = getattr(module(name), word)
                self.assertEqual(kind.__module__, 'runlore.' + name)
                if shape is not None:
                    self.assertEqual(arguments(kind), shape, word)
                for method in methods.split():
                    self.assertIn(method, vars(kind), (word, method))

    def test_methods(self):
        for (name, word), listed in METHODS.items():
            kind = getattr(module(name), word)
            for method, shape in listed.items():
                self.assertEqual(arguments(getattr(kind, method)), shape, (word, method))

    def test_defaults(self):
        self.assertEqual(inspect.signature(module('runner').plain).parameters['rule'].default, '')
        self.assertEqual(inspect.signature(module('regions').Region).parameters['words'].default, ())
        self.assertEqual(inspect.signature(module('lore').Lore).parameters['clauses'].default, ())
        self.assertEqual(inspect.signature(module('trees').look_body).parameters['name'].default, '')
        self.assertIs(inspect.signature(module('boxes').Box.all_inputs).parameters['faults'].default, False)
        self.assertIsNone(inspect.signature(module('tables').table).parameters['region'].default)
        for name, word in (('tables', 'table'), ('tables', 'uncovered'), ('sameness', 'same'), ('preimages', 'preimage'),
                           ('wishes', 'wish'), ('rest', 'rest')):
            self.assertEqual(inspect.signature(getattr(module(name), word)).parameters['most'].default, 400)
        self.assertEqual(inspect.signature(module('composing').composed).parameters['most'].default, 4096)
        self.assertEqual(inspect.signature(module('margins').margin).parameters['most'].default, 100)
        sheet = module('sheets').Sheet(module('trees').Book(()), ('x',), ())
        engine = module('engine').Engine(sheet, {'x': 1})
        self.assertEqual((engine.sheet, engine.given, engine.depth, len(engine)), (sheet, {'x': 1}, 0, 0))
        code = module('codes').Code.of(())
        machine = module('codes').Machine(code, None)
        self.assertEqual((code.rows, len(code), machine.at, machine.asked), ((('unknown',),), 1, 0, ()))
        shape = inspect.signature(module('values').Fault).parameters
        self.assertEqual((shape['rule'].default, shape['path'].default), ('', ()))


if __name__ == '__main__':
    unittest.main()
