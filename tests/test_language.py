"""The rules of the Python subset that can be read off the package's files without running them."""

import ast
import builtins
import re
import unittest
from pathlib import Path

PACKAGE = Path(__file__).resolve().parent.parent / 'surekeys'
FILES = sorted(PACKAGE.rglob('*.py'))
LIBRARY = {'heapq', 'math', 'itertools', 'collections'}
BUILTINS = set('''len range enumerate zip map min max sum abs sorted reversed int str bool bytes list tuple dict set
    frozenset isinstance ord repr any all divmod pow getattr hasattr setattr iter next type super property staticmethod
    classmethod object float print Exception ValueError TypeError KeyError IndexError LookupError ZeroDivisionError
    ArithmeticError OverflowError RuntimeError NotImplementedError AttributeError StopIteration
    NotImplemented'''.split())
NOWHERE = {'register', 'mro', 'elements', 'open', 'input', 'law', 'version_info', 'with_traceback', 'add_note'}
METHODS = set('''append clear copy count endswith extend find get index insert isalnum isalpha isdigit islower isspace
    isupper items join keys ljust lower lstrip partition pop remove replace reverse rfind rjust rpartition rsplit rstrip
    setdefault split splitlines startswith strip update upper values zfill bit_length sort'''.split())
WORDS = re.compile(r'\b(typing|typing_extensions|enum|Enum|Generic|Protocol|ABC|namedtuple|NamedTuple)\b|dataclass')
TOP = (ast.ImportFrom, ast.FunctionDef, ast.ClassDef, ast.Assign)
NOT_ALLOWED = (ast.AsyncFunctionDef, ast.AsyncFor, ast.AsyncWith, ast.Await, ast.Div, ast.Import)


def parsed(path):
    return ast.parse(path.read_text())


def module_name(path):
    name = '.'.join(path.relative_to(PACKAGE.parent).with_suffix('').parts)
    return name.removesuffix('.__init__')


def defined_names(tree):
    names = {node.name for node in tree.body if isinstance(node, (ast.FunctionDef, ast.ClassDef))}
    return names | {node.targets[0].id for node in tree.body if isinstance(node, ast.Assign)}


class LanguageTest(unittest.TestCase):

    def test_files(self):
        for path in PACKAGE.rglob('*'):
            if '__pycache__' not in path.parts and path.is_file():
                self.assertRegex(path.name, r'^([a-z][a-z0-9_]*|__init__|__main__)\.py$')

    def test_sizes_and_characters(self):
        for path in FILES:
            lines = path.read_bytes().decode('ascii').split('\n')
            self.assertLessEqual(len(lines), 399, path)
            for line in lines:
                self.assertLessEqual(len(line), 120, path)
                self.assertTrue(all(' ' <= sign <= '~' for sign in line), path)

    def test_functions(self):
        for path in FILES:
            for node in ast.walk(parsed(path)):
                if isinstance(node, ast.FunctionDef):
                    self.assertLessEqual(node.end_lineno - node.lineno + 1, 40, (path, node.name))

    def test_statements(self):
        for path in FILES:
            tree = parsed(path)
            for node in tree.body[1:]:
                self.assertIsInstance(node, TOP, path)
            self.assertTrue(ast.get_docstring(tree), path)
            for node in ast.walk(tree):
                self.assertNotIsInstance(node, NOT_ALLOWED, path)
                self.assertFalse(isinstance(node, ast.Constant) and isinstance(node.value, (float, complex)), path)

    def test_names(self):
        for path in FILES:
            for node in ast.walk(parsed(path)):
                name = getattr(node, 'id', None) or getattr(node, 'attr', None) or getattr(node, 'arg', None)
                self.assertNotIn(name, NOWHERE, path)
                if isinstance(node, ast.Name) and hasattr(builtins, node.id):
                    self.assertIn(node.id, BUILTINS, path)
                    self.assertIsInstance(node.ctx, ast.Load, path)
            self.assertIsNone(WORDS.search(path.read_text()), path)

    def test_names_of_imports_and_classes_mean_one_thing(self):
        for path in FILES:
            tree = parsed(path)
            taken = {node.name for node in tree.body if isinstance(node, ast.ClassDef)}
            taken |= {alias.name for node in tree.body if isinstance(node, ast.ImportFrom) for alias in node.names}
            for node in ast.walk(tree):
                if isinstance(node, ast.arg):
                    self.assertNotIn(node.arg, taken | set(dir(builtins)), path)
                if isinstance(node, ast.Name) and isinstance(node.ctx, ast.Store):
                    self.assertNotIn(node.id, taken, path)

    def test_methods_of_builtin_values(self):
        own = {node.name for path in FILES for node in ast.walk(parsed(path)) if isinstance(node, ast.FunctionDef)}
        for path in FILES:
            for node in ast.walk(parsed(path)):
                if isinstance(node, ast.Call) and isinstance(node.func, ast.Attribute):
                    self.assertIn(node.func.attr, own | METHODS | {'__init__'}, path)

    def test_imports(self):
        trees = {module_name(path): parsed(path) for path in FILES}
        for name, tree in trees.items():
            for node in tree.body:
                if isinstance(node, ast.ImportFrom) and node.module not in LIBRARY:
                    self.assertEqual(node.level, 0, name)
                    for alias in node.names:
                        self.assertIn(alias.name, defined_names(trees[node.module]), name)

    def test_no_circles(self):
        imported = {module_name(path): {node.module for node in parsed(path).body if isinstance(node, ast.ImportFrom)}
                    for path in FILES}
        left = dict(imported)
        while left:
            free = [name for name in left if not any(other in left for other in left[name])]
            self.assertTrue(free, sorted(left))
            for name in free:
                del left[name]


if __name__ == '__main__':
    unittest.main()
