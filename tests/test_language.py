"""How the package is written: the rules that can be seen in its files one by one."""

import ast
import unittest
from pathlib import Path

PACKAGE = Path(__file__).resolve().parent.parent / 'allpieces'
FILES = sorted(PACKAGE.rglob('*.py'))
BUILTINS = set('''
    len range enumerate zip min max sum abs sorted reversed int str bool bytes list tuple dict set frozenset isinstance
    ord repr any all divmod pow getattr hasattr setattr iter next map property staticmethod classmethod super
    Exception ValueError TypeError KeyError IndexError LookupError ZeroDivisionError ArithmeticError OverflowError
    RuntimeError NotImplementedError AttributeError StopIteration NotImplemented
'''.split())
METHODS = set('''
    append clear copy count endswith extend find get index insert isalnum isalpha isdigit islower isspace isupper items
    join keys ljust lower lstrip partition pop remove replace reverse rfind rjust rpartition rsplit rstrip setdefault
    split splitlines startswith strip update upper values zfill bit_length
'''.split())
BANNED = set('''
    type typing enum dataclass overload contextmanager register elements open input law eval exec compile globals locals
    vars dir id help
'''.split())
BARRED_NAMES = (
    '_wall', '_pe_', '_dcw_', '_enum_', '_cm_', '_twin_re_', '_lay_', '_law_', '_stub_', '_sre', '_cold', '_tuplegetter',
    '_outside', '_record', '_written_out', '_member_names',
)
PLAIN = (
    ast.FunctionDef, ast.ClassDef, ast.Assign, ast.AugAssign, ast.If, ast.While, ast.For, ast.Return, ast.Break,
    ast.Continue, ast.Pass, ast.Raise, ast.Assert, ast.Delete, ast.Nonlocal, ast.Match, ast.With, ast.Try, ast.Expr,
    ast.ImportFrom,
)


def trees():
    """Yield the name and the tree of each file."""
    for file in FILES:
        yield file.name, ast.parse(file.read_text())


def nodes(*kinds):
    """Yield the name of the file and each node of these kinds."""
    for name, tree in trees():
        for node in ast.walk(tree):
            if isinstance(node, kinds):
                yield name, node


def imported(tree):
    """Return the names of the modules from which a file imports."""
    return [node.module for node in ast.walk(tree) if isinstance(node, ast.ImportFrom)]


class LanguageTest(unittest.TestCase):

    def test_the_folder(self):
        self.assertIn('__init__.py', [file.name for file in FILES])
        self.assertLessEqual(len(FILES), 100)
        for file in PACKAGE.rglob('*'):
            if '__pycache__' not in file.parts:
                self.assertEqual(file.suffix, '.py')
                self.assertRegex(file.stem, r'\A[a-z0-9_]+\Z')

    def test_lines_and_characters(self):
        for file in FILES:
            text = file.read_text()
            self.assertTrue(text.endswith('\n'))
            self.assertLessEqual(text.count('\n'), 399)
            self.assertTrue(all(letter == '\n' or ' ' <= letter <= '~' for letter in text), file.name)
            for line in text.splitlines():
                self.assertLessEqual(len(line), 120, file.name)
                self.assertEqual(line, line.rstrip(), file.name)

    def test_functions_are_small(self):
        for name, node in nodes(ast.FunctionDef):
            self.assertLessEqual(node.end_lineno - node.lineno + 1, 40, (name, node.name))

    def test_statements(self):
        for name, node in nodes(ast.stmt):
            self.assertIsInstance(node, PLAIN, (name, node.lineno))

    def test_no_floats_and_no_division(self):
        for name, node in nodes(ast.Constant):
            self.assertNotIsInstance(node.value, (float, complex), name)
            if isinstance(node.value, str):
                self.assertNotIn('%', node.value, name)
        for name, node in nodes(ast.Div):
            self.fail(name)

    def test_module_level(self):
        for name, tree in trees():
            for node in tree.body:
                plain = isinstance(node, (ast.FunctionDef, ast.ClassDef, ast.Assign, ast.ImportFrom))
                self.assertTrue(plain or (node is tree.body[0] and isinstance(node, ast.Expr)), (name, node.lineno))

    def test_imports(self):
        for name, node in nodes(ast.Import, ast.ImportFrom):
            self.assertIsInstance(node, ast.ImportFrom, name)
            self.assertTrue(node.module.startswith('allpieces.'), name)
            self.assertEqual(node.level, 0)
            file = PACKAGE / (node.module.split('.')[1] + '.py')
            parts = ast.parse(file.read_text()).body
            defined = [part.name for part in parts if hasattr(part, 'name')]
            defined += [part.targets[0].id for part in parts if isinstance(part, ast.Assign)]
            for each in node.names:
                self.assertIsNone(each.asname)
                self.assertIn(each.name, defined, name)

    def test_imports_are_used_and_not_hidden(self):
        for name, tree in trees():
            taken = [each.name for node in tree.body if isinstance(node, ast.ImportFrom) for each in node.names]
            used = [node.id for node in ast.walk(tree) if isinstance(node, ast.Name)]
            bound = [node.arg for node in ast.walk(tree) if isinstance(node, ast.arg)]
            bound += [
                node.id for node in ast.walk(tree) if isinstance(node, ast.Name) and isinstance(node.ctx, ast.Store)
            ]
            for each in taken:
                self.assertIn(each, used, name)
                self.assertNotIn(each, bound, name)

    def test_no_two_files_import_from_each_other(self):
        left = {'allpieces.' + name[:-3]: imported(tree) for name, tree in trees()}
        while left:
            done = [name for name, needs in left.items() if not any(need in left for need in needs)]
            self.assertTrue(done, sorted(left))
            for name in done:
                del left[name]

    def test_names(self):
        for name, node in nodes(ast.Name):
            self.assertNotIn(node.id, BANNED, name)
            if isinstance(node.ctx, ast.Store):
                self.assertNotIn(node.id, BUILTINS, name)
        for name, node in nodes(ast.FunctionDef, ast.ClassDef):
            self.assertNotIn(node.name, BANNED | BUILTINS, name)
        for name, node in nodes(ast.arg):
            self.assertNotIn(node.arg, BANNED | BUILTINS, name)
            self.assertIsNone(node.annotation, name)

    def test_names_with_an_underscore(self):
        for name, node in nodes(ast.Name, ast.FunctionDef, ast.Attribute, ast.arg):
            word = [getattr(node, field) for field in ('id', 'name', 'attr', 'arg') if hasattr(node, field)][0]
            self.assertFalse(word.startswith(BARRED_NAMES), (name, word))

    def test_finally_and_exit_only_assign(self):
        blocks = [(name, node.finalbody) for name, node in nodes(ast.Try)]
        blocks += [(name, node.body) for name, node in nodes(ast.FunctionDef) if node.name == '__exit__']
        for name, block in blocks:
            for row in block:
                self.assertIsInstance(row, ast.Assign, name)
                self.assertIsInstance(row.targets[0], ast.Attribute, name)
                self.assertIsInstance(row.value, (ast.Name, ast.Attribute, ast.Constant), name)

    def test_calls(self):
        for name, tree in trees():
            bound = {node.name for node in tree.body if hasattr(node, 'name')} | {'cls'}
            for node in tree.body:
                if isinstance(node, ast.ImportFrom):
                    bound |= {each.name for each in node.names}
            for node in ast.walk(tree):
                if isinstance(node, ast.Call) and isinstance(node.func, ast.Name):
                    self.assertIn(node.func.id, bound | BUILTINS, (name, node.lineno))

    def test_methods_of_builtin_values(self):
        own = {node.name for _, node in nodes(ast.FunctionDef)}
        for name, node in nodes(ast.Call):
            if isinstance(node.func, ast.Attribute):
                self.assertIn(node.func.attr, METHODS | own, (name, node.lineno))

    def test_decorators(self):
        for name, node in nodes(ast.FunctionDef, ast.ClassDef):
            for mark in node.decorator_list:
                setter = isinstance(mark, ast.Attribute) and mark.attr == 'setter'
                plain = isinstance(mark, ast.Name) and mark.id in ('property', 'staticmethod', 'classmethod')
                self.assertTrue(setter or plain, (name, node.name))

    def test_errors_are_raised_by_position_and_caught_by_name(self):
        for name, node in nodes(ast.Raise):
            if node.exc is not None:
                self.assertIsInstance(node.exc, ast.Call, (name, node.lineno))
                self.assertEqual(node.exc.keywords, [], (name, node.lineno))
        for name, node in nodes(ast.ExceptHandler):
            self.assertIsNotNone(node.type, (name, node.lineno))

    def test_lists_for_what_looks_at_all(self):
        for name, node in nodes(ast.GeneratorExp, ast.Lambda, ast.Yield, ast.Global):
            self.fail((name, node.lineno))

    def test_stars_in_methods_stand_behind_a_plain_parameter(self):
        for name, node in nodes(ast.ClassDef):
            for method in node.body:
                if isinstance(method, ast.FunctionDef) and (method.args.vararg or method.args.kwarg):
                    self.assertTrue(method.args.args, (name, method.name))


if __name__ == '__main__':
    unittest.main()
