"""The package against those rules of LANGUAGE.md that a look at its trees can tell."""

import ast
import builtins
import keyword
import pathlib
import re
import textwrap
import unittest

PACKAGE = pathlib.Path(__file__).resolve().parent.parent / 'runlore'
FILES = {path.stem: path.read_text() for path in sorted(PACKAGE.glob('*.py'))}
TREES = {name: ast.parse(text) for name, text in FILES.items()}

LIBRARY = {
    'heapq': ('heappush', 'heappop', 'heapify', 'heapreplace', 'heappushpop'),
    'math': ('gcd', 'lcm', 'isqrt', 'comb', 'perm', 'factorial'),
    'itertools': ('product', 'combinations', 'permutations')}
BUILTINS = (
    'len range enumerate zip min max sum abs sorted reversed int str bool bytes list tuple dict set frozenset '
    'isinstance ord repr any all divmod iter next map Exception ValueError TypeError KeyError IndexError LookupError '
    'ZeroDivisionError ArithmeticError OverflowError RuntimeError NotImplementedError AttributeError StopIteration '
    'NotImplemented super property staticmethod classmethod True False None').split()
METHODS = (
    'append clear copy count endswith extend find get index insert isalnum isalpha isdigit islower isspace isupper '
    'items join keys ljust lower lstrip partition pop remove replace reverse rfind rjust rpartition rsplit rstrip '
    'setdefault split splitlines startswith strip update upper values zfill bit_length removeprefix').split()
MODIFYING = ('append', 'clear', 'extend', 'insert', 'pop', 'remove', 'reverse', 'setdefault', 'update', 'sort')
NOWHERE = ('register', 'mro', 'elements', 'open', 'input', 'law', 'version_info', 'with_traceback', 'add_note')
BARRED_WORDS = (
    'type typing typing_extensions enum Enum IntEnum StrEnum Flag IntFlag Generic Protocol ABC ABCMeta namedtuple '
    'NamedTuple TypedDict TYPE_CHECKING abstractmethod').split()
NOT_NAMES = (
    'attrgetter breakpoint builtins compile copyright credits delattr dir eval exec exit gc getattr globals hasattr '
    'help id importlib license locals methodcaller os quit setattr super type vars sys').split()
SPECIAL = (
    '__init__ __eq__ __repr__ __str__ __len__ __enter__ __exit__ __call__ __iter__ __ne__ __lt__ __le__ __gt__ __ge__ '
    '__add__ __sub__ __mul__ __floordiv__ __mod__ __pow__ __and__ __or__ __xor__ __lshift__ __rshift__ __neg__ '
    '__pos__ __invert__ __abs__ __bool__ __contains__ __getitem__ __setitem__').split()
PURE = [name for name in SPECIAL if name not in ('__init__', '__enter__', '__exit__', '__call__', '__setitem__')]
AT_ONCE = ('range', 'zip', 'enumerate', 'reversed')
TAKERS = ('list', 'tuple', 'dict', 'sorted', 'sum', 'any', 'all', 'enumerate', 'zip', 'bytes', 'min', 'max', 'len')


def nodes(kind):
    for name, tree in TREES.items():
        for node in ast.walk(tree):
            if isinstance(node, kind):
                yield f'{name}:{getattr(node, "lineno", 0)}', node


def parents(tree):
    return {child: node for node in ast.walk(tree) for child in ast.iter_child_nodes(node)}


def functions(tree):
    """Pairs of a class (or None) and a function at module level or in a class."""
    for node in tree.body:
        if isinstance(node, ast.FunctionDef):
            yield None, node
        if isinstance(node, ast.ClassDef):
            for inner in node.body:
                if isinstance(inner, ast.FunctionDef):
                    yield node, inner


def decorators(function):
    return [node.id for node in function.decorator_list]


def locals_of(function):
    names = {arg.arg for arg in ast.walk(function.args) if isinstance(arg, ast.arg)}
    for node in ast.walk(function):
        if isinstance(node, ast.Name) and isinstance(node.ctx, ast.Store):
            names.add(node.id)
        if isinstance(node, ast.arg):
            names.add(node.arg)
        if isinstance(node, ast.ExceptHandler) and node.name:
            names.add(node.name)
        if isinstance(node, ast.FunctionDef) and node is not function:
            names.add(node.name)
    return names


class FormTest(unittest.TestCase):
    def test_sizes_and_characters(self):
        for name, text in FILES.items():
            self.assertLessEqual(len(text.splitlines()), 399, name)
            for at, line in enumerate(text.splitlines(), 1):
                self.assertLessEqual(len(line), 120, f'{name}:{at}')
                self.assertTrue(all(' ' <= letter <= '~' for letter in line), f'{name}:{at}')
        for where, node in nodes(ast.FunctionDef):
            self.assertLessEqual(node.end_lineno - node.lineno + 1, 40, where)

    def test_imports(self):
        reached = {}
        for name, tree in TREES.items():
            reached[name] = []
            for node in ast.walk(tree):
                self.assertNotIsInstance(node, ast.Import, name)
                if not isinstance(node, ast.ImportFrom):
                    continue
                self.assertIn(node, tree.body)
                if node.module in LIBRARY:
                    self.assertTrue(all(alias.name in LIBRARY[node.module] for alias in node.names))
                    continue
                self.assertTrue(node.module.startswith('runlore.'), name)
                other = node.module.split('.')[1]
                reached[name].append(other)
                own = {made.name for made in TREES[other].body if isinstance(made, (ast.FunctionDef, ast.ClassDef))}
                own |= {made.targets[0].id for made in TREES[other].body if isinstance(made, ast.Assign)}
                self.assertTrue(all(alias.name in own for alias in node.names), (name, other))
        done = []
        while len(done) < len(reached):
            ready = [name for name in reached if name not in done and all(other in done for other in reached[name])]
            self.assertTrue(ready, 'files import from one another in a ring')
            done.extend(ready)

    def test_imports_are_used(self):
        for name, tree in TREES.items():
            used = {node.id for node in ast.walk(tree) if isinstance(node, ast.Name)}
            for node in tree.body:
                if isinstance(node, ast.ImportFrom):
                    self.assertTrue(all(alias.name in used for alias in node.names), (name, node.module))

    def test_names(self):
        for name, tree in TREES.items():
            outer = {alias.name for node in tree.body if isinstance(node, ast.ImportFrom) for alias in node.names}
            outer |= {node.name for node in tree.body if isinstance(node, ast.ClassDef)}
            top = [node.name for node in tree.body if isinstance(node, (ast.FunctionDef, ast.ClassDef))]
            self.assertEqual(len(top), len({*top}), name)
            for one in top:
                self.assertFalse(hasattr(builtins, one), (name, one))
                self.assertNotIn(one, outer - {*top} | {*NOWHERE, *NOT_NAMES})
            for holder, function in functions(tree):
                for one in locals_of(function):
                    self.assertNotIn(one, outer, (name, function.name))
                    self.assertFalse(hasattr(builtins, one), (name, function.name, one))
                    self.assertNotIn(one, NOWHERE + tuple(NOT_NAMES), (name, function.name))
                    self.assertRegex(one, '^(_|_?[A-Za-z][A-Za-z0-9_]*)$')
        for where, node in nodes(ast.Attribute):
            self.assertNotIn(node.attr, NOWHERE, where)

    def test_barred_words(self):
        for where, node in nodes(ast.Constant):
            if isinstance(node.value, str):
                self.assertNotIn('%', node.value, where)
        for name, text in FILES.items():
            for word in re.findall('[A-Za-z_]+', re.sub('""".*?"""', '', text, flags=re.S)):
                self.assertNotIn(word, BARRED_WORDS, name)
            for word in ('(type)', 'Meta', 'metaclass=', 'dataclass', 'overload', 'contextmanager', '_wall'):
                self.assertNotIn(word, text, name)

    def test_constructs(self):
        barred = (
            ast.GeneratorExp, ast.Set, ast.SetComp, ast.Lambda, ast.Global, ast.AsyncFunctionDef, ast.Await, ast.AnnAssign,
            ast.Div, ast.Match, ast.NamedExpr, ast.MatMult)
        for where, node in nodes(ast.AST):
            self.assertNotIsInstance(node, barred, where)
            if isinstance(node, ast.arg):
                self.assertIsNone(node.annotation, where)
            if isinstance(node, ast.FunctionDef):
                self.assertIsNone(node.returns, where)
            if isinstance(node, ast.Compare) and isinstance(node.ops[0], (ast.Is, ast.IsNot)):
                self.assertIsInstance(node.comparators[0], ast.Constant, where)
            if isinstance(node, ast.Constant):
                self.assertNotIsInstance(node.value, (float, complex, bytes), where)
            if isinstance(node, ast.ExceptHandler):
                self.assertIsInstance(node.type, ast.Name, where)
                self.assertNotIn(node.type.id, ('ValueError', 'LookupError', 'IndexError', 'Exception'), where)
            if isinstance(node, ast.Name) and hasattr(builtins, node.id):
                self.assertIn(node.id, BUILTINS, where)
            if isinstance(node, ast.FunctionDef) and node.name.startswith('__'):
                self.assertIn(node.name, SPECIAL, where)

    def test_calls(self):
        made = {node.name for _, node in nodes((ast.FunctionDef, ast.ClassDef))}
        for where, node in nodes(ast.Call):
            self.assertIsInstance(node.func, (ast.Name, ast.Attribute), where)
            starred = [arg for arg in node.args if isinstance(arg, ast.Starred)]
            self.assertFalse([arg for arg in starred if isinstance(arg.value, ast.Call)], where)
            if isinstance(node.func, ast.Attribute):
                self.assertTrue(node.func.attr in METHODS or node.func.attr in made or node.func.attr == 'result', where)
                self.assertNotEqual(node.func.attr, 'sort', where)
            elif node.func.id in BUILTINS:
                words = {'sorted': ('key', 'reverse'), 'min': ('key', 'default'), 'max': ('key', 'default')}
                words.update({'sum': ('start',), 'enumerate': ('start',), 'zip': ('strict',)})
                for word in node.keywords:
                    self.assertIn(word.arg, words.get(node.func.id, ()), where)

    def test_iterated_at_once(self):
        for name, tree in TREES.items():
            above = parents(tree)
            for node in ast.walk(tree):
                if not isinstance(node, ast.Call):
                    continue
                func = node.func
                view = isinstance(func, ast.Attribute) and func.attr in ('items', 'keys', 'values') and not node.args
                if not view and not (isinstance(func, ast.Name) and func.id in AT_ONCE):
                    continue
                over = above[node]
                fits = isinstance(over, (ast.For, ast.comprehension)) and over.iter is node
                if isinstance(over, ast.Call) and isinstance(over.func, ast.Name) and over.func.id in TAKERS:
                    fits = over.args[0] is node or over.func.id == 'zip'
                if isinstance(over, ast.Call) and isinstance(over.func, ast.Name) and over.func.id == 'reversed':
                    fits = getattr(func, 'id', '') == 'range'
                self.assertTrue(fits, f'{name}:{node.lineno}')

    def test_generators(self):
        made = [node for _, node in nodes(ast.FunctionDef)]
        generators = [node for node in made if any(isinstance(one, (ast.Yield, ast.YieldFrom)) for one in ast.walk(node))]
        names = [node.name for node in generators]
        for node in generators:
            self.assertEqual([other.name for other in made].count(node.name), 1, node.name)
            self.assertFalse(node.decorator_list or node.name.startswith('__') or node.name in METHODS, node.name)
            above = parents(node)
            for one in ast.walk(node):
                if isinstance(one, (ast.Yield, ast.YieldFrom)):
                    self.assertIsInstance(above[one], ast.Expr, node.name)
                self.assertNotIsInstance(one, (ast.Try, ast.With), node.name)
                self.assertFalse(isinstance(one, ast.Return) and one.value is not None, node.name)
        for name, tree in TREES.items():
            above = parents(tree)
            for node in ast.walk(tree):
                if isinstance(node, ast.Name) and node.id in names:
                    self.assertIsInstance(above[node], ast.Call, name)
                if isinstance(node, ast.Call) and getattr(node.func, 'id', getattr(node.func, 'attr', None)) in names:
                    over = above[node]
                    fits = isinstance(over, (ast.For, ast.comprehension)) and over.iter is node
                    self.assertTrue(fits or isinstance(over, ast.YieldFrom), f'{name}:{node.lineno}')
                    for arg in node.args:
                        self.assertIsInstance(arg, (ast.Name, ast.Attribute, ast.Constant), f'{name}:{node.lineno}')

    def test_module_level(self):
        for name, tree in TREES.items():
            for at, node in enumerate(tree.body):
                if isinstance(node, ast.Assign):
                    self.assertEqual(len(node.targets), 1)
                    self.assertIsInstance(node.targets[0], ast.Name)
                elif isinstance(node, ast.Expr):
                    self.assertEqual(at, 0, name)
                    self.assertIsInstance(node.value, ast.Constant)
                else:
                    self.assertIsInstance(node, (ast.FunctionDef, ast.ClassDef, ast.ImportFrom), name)


class ClassTest(unittest.TestCase):
    def test_methods_attributes_and_properties_have_names_of_their_own(self):
        methods, properties, fixed, attributes = set(), set(), set(), set()
        for tree in TREES.values():
            for holder, function in functions(tree):
                if holder is None:
                    continue
                kinds = decorators(function)
                group = properties if 'property' in kinds else fixed if kinds else methods
                group.add(function.name)
        for where, node in nodes(ast.Attribute):
            if isinstance(node.ctx, ast.Store):
                attributes.add(node.attr)
                self.assertNotIn(node.attr, METHODS, where)
        self.assertFalse(properties & (methods | fixed | attributes))
        self.assertFalse(fixed & (methods | attributes))
        self.assertFalse(methods & attributes)
        # The interface wants an engine to have a method `clear`.
        self.assertEqual({*METHODS} & (methods | properties | fixed), {'clear'})
        for where, node in nodes(ast.Attribute):
            if isinstance(node.ctx, ast.Load):
                known = methods | properties | fixed | attributes | {*METHODS}
                self.assertIn(node.attr, known, where)

    def test_special_methods(self):
        for name, tree in TREES.items():
            for holder, function in functions(tree):
                if function.name in ('__eq__', '__repr__', '__str__', '__len__'):
                    for node in ast.walk(function):
                        self.assertNotIsInstance(node, (ast.Assign, ast.AugAssign, ast.Delete), name)
                if function.name in ('__repr__', '__str__'):
                    for node in ast.walk(function):
                        if isinstance(node, ast.Return):
                            self.assertTrue(self.is_text(node.value), f'{name}:{node.lineno}')
                if function.name == '__len__':
                    self.assertEqual(ast.unparse(function.body[-1])[:11], 'return len(')
                if function.name == '__getitem__':
                    self.assertIn('__iter__', [node.name for node in holder.body if isinstance(node, ast.FunctionDef)])

    def is_text(self, node):
        if isinstance(node, ast.JoinedStr) or isinstance(node, ast.Constant):
            return True
        if isinstance(node.func, ast.Attribute):
            return node.func.attr == 'join' and isinstance(node.func.value, ast.Constant)
        return node.func.id in ('str', 'repr')


class LeavingTest(unittest.TestCase):
    """What stands in `__exit__` and `finally`, in a package with arithmetic methods, `__eq__` and `__bool__`."""

    def test_the_package(self):
        found = []
        for name, tree in TREES.items():
            found.extend([f'{name}:{row}' for row in wrong_leaving_rows(tree)])
        self.assertEqual(found, [])

    def test_there_is_an_exit(self):
        exits = [function.name for tree in TREES.values() for _, function in functions(tree)]
        self.assertIn('__exit__', exits)

    def test_rows_that_may_stand(self):
        for rows in (
                'pass', 'return', 'return None', 'return False', 'self.a = self.b.c', 'self.b.a = kind',
                'self.a = (1, [self.b])', 'if self.a is None: return', 'if kind is not None: self.a = self.b',
                'if not self.a is None or (kind is None and self.b.c is None): pass\nelse: self.a = 0'):
            self.assertEqual(wrong_leaving_rows(exit_with(rows)), [], rows)
        shut = 'def shut(self):\n    self.a = None'
        self.assertEqual(wrong_leaving_rows(exit_with('self.shut()', shut)), [])
        self.assertEqual(wrong_leaving_rows(finally_with('if k is not None: self.a, k = k, 0')), [])

    def test_rows_that_may_not_stand(self):
        for rows in (
                'self.engine.depth -= 1', 'self.a += 1', 'self.a = self.a + 1', 'self.a = self.b - 1', 'self.a = -1',
                'self.a = self.b[0]', 'self.a = self.told()', 'self.a[0] = 1', 'a = 1', 'return True', 'return 0',
                'return self.a', 'raise', 'if self.a: pass', 'if not self.a: self.b = 1',
                'if kind is None and self.a: pass', 'if self.a == 1: pass',
                'if self.a is not None: pass', 'if self.a is False: pass', 'if value is None: pass', 'self.a = trace',
                'if self.a is None: self.b -= 1', 'self.rows.append(1)', 'self.shut(1)', 'for a in self.a: pass'):
            self.assertEqual(len(wrong_leaving_rows(exit_with(rows))), 1, rows)
        for rows in ('self.b -= 1', 'if self.a: pass', 'if not self.a: self.b = 1', 'self.a = self.b + 1'):
            shut = f'def shut(self):\n    {rows}'
            self.assertEqual(len(wrong_leaving_rows(exit_with('self.shut()', shut))), 1, rows)
            self.assertEqual(len(wrong_leaving_rows(finally_with(rows))), 1, rows)
        self.assertEqual(len(wrong_leaving_rows(finally_with('return'))), 1)


def exit_with(rows, more=''):
    """A file with a class that has these rows in its `__exit__`, and perhaps one more method."""
    rows = textwrap.indent(rows, '        ')
    more = textwrap.indent(more, '    ')
    return ast.parse(f'class C:\n    def __exit__(self, kind, value, trace):\n{rows}\n{more}\n')


def finally_with(rows):
    rows = textwrap.indent(rows, '        ')
    return ast.parse(f'def f(self, k):\n    try:\n        pass\n    finally:\n{rows}\n')


def wrong_leaving_rows(tree):
    """The line numbers of the rows in `__exit__`, in what it calls, and in `finally` that may not stand there."""
    wrong = []
    for node in ast.walk(tree):
        if isinstance(node, ast.Try):
            for row in node.finalbody:
                wrong.extend(wrong_lines(row, True, {}))
        if isinstance(node, ast.ClassDef):
            methods = {inner.name: inner for inner in node.body if isinstance(inner, ast.FunctionDef)}
            for row in methods['__exit__'].body if '__exit__' in methods else []:
                wrong.extend(wrong_lines(row, False, methods))
    return wrong


def wrong_lines(row, is_final, methods):
    """The line numbers of what may not stand in a row of a `finally` or an `__exit__`."""
    if isinstance(row, ast.If) and is_leaving_test(row.test, is_final):
        return [line for inner in row.body + row.orelse for line in wrong_lines(inner, is_final, methods)]
    if isinstance(row, ast.Return) and not is_final:
        return [] if row.value is None or ast.unparse(row.value) in ('None', 'False') else [row.lineno]
    if isinstance(row, ast.Expr) and isinstance(row.value, ast.Call):
        return wrong_lines_of_call(row.value, methods)
    if isinstance(row, ast.Assign) and len(row.targets) == 1:
        return [] if is_target(row.targets[0], is_final) and is_simple(row.value, is_final) else [row.lineno]
    return [] if isinstance(row, ast.Pass) else [row.lineno]


def wrong_lines_of_call(call, methods):
    """An `__exit__` may call a method of its own object that has such rows, too."""
    func = call.func
    fits = isinstance(func, ast.Attribute) and isinstance(func.value, ast.Name) and func.value.id == 'self'
    if not fits or func.attr not in methods or call.args or call.keywords:
        return [call.lineno]
    others = {name: methods[name] for name in methods if name != func.attr}
    return [line for row in methods[func.attr].body for line in wrong_lines(row, False, others)]


def is_leaving_test(node, is_final):
    """Whether a test asks only what is None."""
    if isinstance(node, ast.BoolOp):
        return all(is_leaving_test(one, is_final) for one in node.values)
    if isinstance(node, ast.UnaryOp):
        return isinstance(node.op, ast.Not) and is_leaving_test(node.operand, is_final)
    if not isinstance(node, ast.Compare) or [ast.unparse(one) for one in node.comparators] != ['None']:
        return False
    is_kind = isinstance(node.left, ast.Name) and node.left.id == 'kind'
    fits = isinstance(node.ops[0], ast.Is) or (isinstance(node.ops[0], ast.IsNot) and (is_kind or is_final))
    return fits and is_simple(node.left, is_final) and not isinstance(node.left, (ast.Constant, ast.List, ast.Tuple))


def is_target(node, is_final):
    if isinstance(node, ast.Tuple) and is_final:
        return all(is_target(one, is_final) for one in node.elts)
    if isinstance(node, ast.Name):
        return is_final
    return isinstance(node, ast.Attribute) and is_simple(node, is_final)


def is_simple(node, is_final):
    """Whether it is a name, an attribute, a literal, or a list or tuple of such; `__exit__` reads no error."""
    if isinstance(node, ast.Name):
        return is_final or node.id not in ('value', 'trace', 'told')
    if isinstance(node, ast.Attribute):
        return is_simple(node.value, is_final)
    if isinstance(node, (ast.List, ast.Tuple)):
        return all(is_simple(one, is_final) for one in node.elts)
    return isinstance(node, ast.Constant)


class PureTest(unittest.TestCase):
    """What operators, properties and the like run changes nothing and calls nothing that it is passed or holds."""

    def test_pure(self):
        found = {}
        for name, tree in TREES.items():
            for holder, function in functions(tree):
                key = function.name if holder is None else f'.{function.name}'
                found.setdefault(key, []).append((name, holder, function))
                if function.name == '__init__':
                    found.setdefault(holder.name, []).append((name, holder, function))
        todo = [
            entry for key in found for entry in found[key]
            if key[0] == '.' and (key[1:] in PURE or 'property' in decorators(entry[2]))]
        seen = []
        while todo:
            entry = todo.pop()
            if entry in seen:
                continue
            seen.append(entry)
            for key in self.check_pure(*entry):
                todo.extend(found.get(key, []))
        self.assertGreater(len(seen), 50)

    def check_pure(self, name, holder, function):
        """Checks one function; returns what it calls."""
        where = f'{name}.{function.name}'
        own = self.created(function)
        called = []
        for node in ast.walk(function):
            if isinstance(node, (ast.Attribute, ast.Subscript)) and not isinstance(node.ctx, ast.Load):
                target = node.value
                fits = isinstance(target, ast.Name) and target.id in own
                if function.name == '__init__':
                    fits = fits or (isinstance(node, ast.Attribute) and getattr(target, 'id', '') == 'self')
                self.assertTrue(fits, f'{where}:{node.lineno}')
            self.assertNotIsInstance(node, ast.AugAssign, where)
            if not isinstance(node, ast.Call):
                continue
            if isinstance(node.func, ast.Attribute):
                if node.func.attr in MODIFYING:
                    self.assertIn(getattr(node.func.value, 'id', None), own, f'{where}:{node.lineno}')
                called.append(f'.{node.func.attr}')
            else:
                self.assertNotIn(node.func.id, locals_of(function), f'{where}:{node.lineno}')
                called.append(node.func.id)
        return called

    def created(self, function):
        """The local variables that hold nothing but lists and dicts that the function created."""
        good, bad = set(), {arg.arg for arg in ast.walk(function.args) if isinstance(arg, ast.arg)}
        for node in ast.walk(function):
            if isinstance(node, ast.Assign):
                for target in node.targets:
                    if isinstance(target, ast.Name):
                        fresh = isinstance(node.value, (ast.List, ast.Dict, ast.ListComp))
                        call = isinstance(node.value, ast.Call) and getattr(node.value.func, 'id', '')
                        (good if fresh or call in ('list', 'dict', 'sorted') else bad).add(target.id)
            elif isinstance(node, ast.For):
                bad |= {one.id for one in ast.walk(node.target) if isinstance(one, ast.Name)}
        return good - bad


class FilesTest(unittest.TestCase):
    def test_the_folder_holds_files_of_the_package_only(self):
        for path in PACKAGE.iterdir():
            if path.name != '__pycache__':
                self.assertRegex(path.name, '^[a-z_0-9]+[.]py$')
                self.assertFalse(keyword.iskeyword(path.stem))
                self.assertFalse(path.stem != '__init__' and hasattr(builtins, path.stem))


if __name__ == '__main__':
    unittest.main()
