"""Those rules of the Python subset that can be seen file by file."""

import ast
import builtins
import io
import os
import re
import tokenize
import unittest

PACKAGE = os.path.join(os.path.dirname(os.path.dirname(os.path.abspath(__file__))), "askfolds")
BUILTINS = set(
    "len range enumerate zip min max sum abs sorted reversed int str bool list tuple dict set isinstance ord repr any "
    "all divmod iter next Exception ValueError TypeError KeyError IndexError LookupError ZeroDivisionError "
    "ArithmeticError OverflowError RuntimeError NotImplementedError".split()
)
BARRED_WORDS = (
    "type typing typing_extensions enum Enum IntEnum StrEnum Flag IntFlag Generic Protocol ABC ABCMeta namedtuple "
    "NamedTuple TypedDict TYPE_CHECKING abstractmethod"
).split()
BARRED_NAMES = set(
    "register mro elements open input version_info with_traceback add_note attrgetter breakpoint builtins compile "
    "copyright credits delattr dir eval exec exit gc getattr globals hasattr help id importlib license locals "
    "methodcaller os quit setattr super type vars sys".split()
)
STATEMENTS = (
    ast.FunctionDef, ast.ClassDef, ast.Assign, ast.AugAssign, ast.If, ast.While, ast.For, ast.Return, ast.Break,
    ast.Continue, ast.Pass, ast.Raise, ast.Expr, ast.ImportFrom, ast.Try,
)
METHODS = set(
    "append clear copy count endswith extend find get index insert isalnum isalpha isdigit islower isspace isupper "
    "items join keys ljust lower lstrip partition pop remove replace reverse rfind rjust rpartition rsplit rstrip "
    "setdefault split splitlines startswith strip update upper values zfill bit_length".split()
)


def files():
    """Yield the name and the text of each file of the package."""
    for name in sorted(os.listdir(PACKAGE)):
        if name != "__pycache__":
            with open(os.path.join(PACKAGE, name), encoding="utf-8") as held:
                yield name, held.read()


def bound_names(tree):
    """Tell all parameters and variables of functions."""
    found = [node.arg for node in ast.walk(tree) if isinstance(node, ast.arg)]
    for function in ast.walk(tree):
        if isinstance(function, ast.FunctionDef):
            found += [node.id for node in ast.walk(function) if isinstance(node, ast.Name) and isinstance(node.ctx, ast.Store)]
    return set(found)


class Language(unittest.TestCase):
    def test_files_and_lines(self):
        for name, text in files():
            self.assertRegex(name, r"^([a-z][a-z0-9_]*|__init__)\.py$")
            self.assertTrue(all(sign == "\n" or " " <= sign <= "~" for sign in text), name)
            self.assertLessEqual(len(text.splitlines()), 400, name)
            for line in text.splitlines():
                self.assertLessEqual(len(line), 120, name)

    def test_words(self):
        for name, text in files():
            for word in BARRED_WORDS:
                self.assertIsNone(re.search(rf"\b{word}\b", text), (name, word))
            for word in ("dataclass", "overload", "contextmanager"):
                self.assertNotIn(word, text)
            for token in tokenize.generate_tokens(io.StringIO(text).readline):
                if token.type == tokenize.STRING:
                    self.assertNotIn("%", token.string, name)

    def test_functions_are_short_and_plain(self):
        for name, text in files():
            for node in ast.walk(ast.parse(text)):
                if isinstance(node, ast.FunctionDef):
                    self.assertLessEqual(node.end_lineno - node.lineno + 1, 40, (name, node.name))
                    self.assertEqual(node.decorator_list, [], (name, node.name))
                if isinstance(node, ast.stmt):
                    self.assertIsInstance(node, STATEMENTS, (name, node.lineno))

    def test_errors(self):
        own = [node.name for node in ast.walk(ast.parse(dict(files())["errors.py"])) if isinstance(node, ast.ClassDef)]
        for name, text in files():
            for node in ast.walk(ast.parse(text)):
                if isinstance(node, ast.ExceptHandler):
                    self.assertIn(node.type.id, own, (name, node.lineno))
                    self.assertIsNone(node.name, (name, node.lineno))
                if isinstance(node, ast.Try):
                    self.assertEqual((node.finalbody, node.orelse), ([], []), (name, node.lineno))
                if isinstance(node, ast.Raise):
                    self.assertIn(node.exc.func.id, own, (name, node.lineno))

    def test_classes(self):
        methods, attributes = set(), set()
        for name, text in files():
            for node in ast.walk(ast.parse(text)):
                if isinstance(node, ast.ClassDef):
                    methods.update(one.name for one in node.body if isinstance(one, ast.FunctionDef))
                if isinstance(node, ast.Attribute) and isinstance(node.ctx, ast.Store):
                    attributes.add(node.attr)
                    self.assertEqual(node.value.id, "self", (name, node.lineno))
        self.assertEqual(methods & attributes, set())
        self.assertEqual((methods | attributes) & BARRED_NAMES, set())

    def test_names(self):
        for name, text in files():
            tree = ast.parse(text)
            top = [node.name for node in tree.body if isinstance(node, (ast.FunctionDef, ast.ClassDef))]
            top += [target.id for node in tree.body if isinstance(node, ast.Assign) for target in node.targets]
            imported = [alias.name for node in tree.body if isinstance(node, ast.ImportFrom) for alias in node.names]
            self.assertEqual(len(top + imported), len(set(top + imported)), name)
            classes = [node.name for node in tree.body if isinstance(node, ast.ClassDef)]
            local = bound_names(tree)
            for word in local:
                self.assertNotIn(word, set(imported + classes) | set(dir(builtins)) | BUILTINS | BARRED_NAMES, name)
                self.assertRegex(word, "^[a-z]", name)
            known = local | set(top) | set(imported) | BUILTINS
            for node in ast.walk(tree):
                if isinstance(node, ast.Name):
                    self.assertIn(node.id, known, (name, node.lineno))

    def test_imports(self):
        after = {}
        for name, text in files():
            tree = ast.parse(text)
            after[name[:-3]] = []
            for node in ast.walk(tree):
                self.assertNotIsInstance(node, ast.Import)
                if isinstance(node, ast.ImportFrom):
                    self.assertIn(node, tree.body)
                    self.assertRegex(node.module, r"^askfolds\.[a-z_]+$")
                    after[name[:-3]].append(node.module.split(".")[1])
        placed = set()
        while len(placed) < len(after):
            ready = [one for one in after if one not in placed and placed.issuperset(after[one])]
            self.assertTrue(ready, "files import from each other")
            placed.update(ready)

    def test_expressions(self):
        own = set()
        for name, text in files():
            own.update(node.name for node in ast.walk(ast.parse(text)) if isinstance(node, ast.FunctionDef))
        for name, text in files():
            for node in ast.walk(ast.parse(text)):
                if isinstance(node, ast.Compare) and any(isinstance(sign, (ast.Is, ast.IsNot)) for sign in node.ops):
                    self.assertIsInstance(node.comparators[0], ast.Constant)
                if isinstance(node, ast.Constant):
                    self.assertNotIsInstance(node.value, (float, complex))
                if isinstance(node, ast.BinOp):
                    self.assertNotIsInstance(node.op, (ast.Div, ast.MatMult, ast.Pow))
                if isinstance(node, ast.Call) and isinstance(node.func, ast.Attribute):
                    self.assertIn(node.func.attr, METHODS | own, (name, node.lineno))


if __name__ == "__main__":
    unittest.main()
