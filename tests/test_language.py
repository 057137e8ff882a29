"""The package's files keep to the language subset, as far as a look at each file can tell.

What needs a reader's eye (plain names, comments that say why) is not looked at here.
"""

import ast
import builtins
import pathlib
import re
import unittest

PACKAGE = pathlib.Path(__file__).resolve().parent.parent / "beliefsets"
FILES = sorted(PACKAGE.glob("*.py"))
BUILTINS = set("""len range enumerate zip min max sum abs sorted reversed int str bool bytes list tuple dict set
frozenset isinstance ord repr any all divmod Exception ValueError TypeError KeyError IndexError LookupError
ZeroDivisionError ArithmeticError OverflowError RuntimeError NotImplementedError AttributeError StopIteration
NotImplemented""".split())
METHODS = set("""append clear copy count endswith extend find get index insert isalnum isalpha isdigit islower isspace
isupper items join keys ljust lower lstrip partition pop remove replace reverse rfind rjust rpartition rsplit rstrip
setdefault split splitlines startswith strip update upper values zfill bit_length removeprefix removesuffix
isascii""".split())
BARRED = """type typing typing_extensions enum Enum IntEnum StrEnum Flag IntFlag Generic Protocol ABC ABCMeta namedtuple
NamedTuple TypedDict TYPE_CHECKING abstractmethod register mro elements open input version_info with_traceback add_note
attrgetter breakpoint compile copyright credits delattr dir eval exec exit gc getattr globals hasattr help id importlib
license locals methodcaller os quit setattr super vars sys""".split()
STATEMENTS = (ast.Global, ast.AsyncFunctionDef, ast.AsyncFor, ast.AsyncWith, ast.Import)


def bound_names(tree):
    """All names that a file's functions, parameters, assignments and imports bind."""
    for node in ast.walk(tree):
        if isinstance(node, (ast.FunctionDef, ast.ClassDef)):
            yield node.name
        elif isinstance(node, ast.arg):
            yield node.arg
        elif isinstance(node, ast.Name) and isinstance(node.ctx, ast.Store):
            yield node.id
        elif isinstance(node, ast.alias):
            yield node.asname or node.name
        elif isinstance(node, ast.ExceptHandler) and node.name:
            yield node.name


def top_names(tree):
    """The names bound at module level, in order, each as often as it is."""
    for node in tree.body:
        if isinstance(node, (ast.FunctionDef, ast.ClassDef)):
            yield node.name
        elif isinstance(node, ast.Assign):
            yield node.targets[0].id
        elif isinstance(node, ast.ImportFrom):
            yield from [alias.asname or alias.name for alias in node.names]


def each():
    """Each file of the package: its path, its text, its tree."""
    for path in FILES:
        text = path.read_text(encoding="utf-8")
        yield path, text, ast.parse(text)


def at(path, node):
    return f"{path.name}, line {node.lineno}"


class Language(unittest.TestCase):

    def test_the_folder_holds_python_files_only(self):
        self.assertTrue(FILES)
        for path in PACKAGE.iterdir():
            if path.name != "__pycache__":
                self.assertRegex(path.name, r"^[a-z_0-9]+\.py$")

    def test_characters_and_sizes(self):
        for path, text, tree in each():
            self.assertRegex(text, r"\A[\n -~]*\Z")
            self.assertLessEqual(len(text.splitlines()), 400, path.name)
            self.assertLessEqual(max(map(len, text.splitlines())), 120, path.name)
            for word in BARRED:
                self.assertIsNone(re.search(rf"\b{word}\b", text), f"{path.name}: {word}")
            for node in ast.walk(tree):
                if isinstance(node, ast.FunctionDef):
                    self.assertLessEqual(node.end_lineno - node.lineno + 1, 40, at(path, node))

    def test_module_level(self):
        for path, text, tree in each():
            for k, node in enumerate(tree.body):
                docstring = k == 0 and isinstance(node, ast.Expr)
                allowed = (ast.ImportFrom, ast.FunctionDef, ast.ClassDef, ast.Assign)
                self.assertTrue(docstring or isinstance(node, allowed), at(path, node))
            names = list(top_names(tree))
            self.assertEqual(len(names), len(set(names)), path.name)

    def test_imports(self):
        order = {}
        for path, text, tree in each():
            order[path.stem] = []
            for node in ast.walk(tree):
                if isinstance(node, ast.ImportFrom):
                    self.assertEqual((node.level, node.module.split(".")[0]), (0, "beliefsets"))
                    source = PACKAGE / (node.module.split(".")[1] + ".py")
                    defined = [one for one in ast.parse(source.read_text()).body if not isinstance(one, ast.ImportFrom)]
                    here = set(top_names(ast.Module(defined, [])))
                    self.assertLessEqual({alias.name for alias in node.names}, here)
                    order[path.stem].append(source.stem)
                    used = {one.id for one in ast.walk(tree) if isinstance(one, ast.Name)}
                    self.assertLessEqual({alias.name for alias in node.names}, used, "an import that is not used")
        while order:
            free = [name for name in order if not any(other in order for other in order[name])]
            self.assertTrue(free, f"these import one another: {sorted(order)}")
            order = {name: order[name] for name in order if name not in free}

    def test_names(self):
        for path, text, tree in each():
            classes_and_imports = {alias.name for node in ast.walk(tree) if isinstance(node, ast.ImportFrom)
                                   for alias in node.names}
            classes_and_imports |= {node.name for node in tree.body if isinstance(node, ast.ClassDef)}
            for name in bound_names(tree):
                self.assertTrue(name == "__init__" or not name.startswith("_") and not hasattr(builtins, name), name)
            for node in ast.walk(tree):
                if isinstance(node, ast.arg):
                    self.assertNotIn(node.arg, classes_and_imports, at(path, node))
                if isinstance(node, ast.Name) and isinstance(node.ctx, ast.Store):
                    self.assertNotIn(node.id, classes_and_imports, at(path, node))
                if isinstance(node, ast.Name) and hasattr(builtins, node.id):
                    self.assertIn(node.id, BUILTINS, at(path, node))

    def test_statements_and_expressions(self):
        for path, text, tree in each():
            for node in ast.walk(tree):
                self.assertNotIsInstance(node, STATEMENTS)
                self.assertFalse(getattr(node, "decorator_list", []))
                if isinstance(node, ast.BinOp):
                    self.assertNotIsInstance(node.op, (ast.Div, ast.MatMult), at(path, node))
                    self.assertTrue(not isinstance(node.op, ast.Pow) or isinstance(node.right, ast.Constant),
                                    at(path, node))
                if isinstance(node, ast.Constant):
                    self.assertNotIsInstance(node.value, (float, complex), at(path, node))
                    self.assertFalse(isinstance(node.value, str) and "%" in node.value, at(path, node))
                if isinstance(node, ast.Compare):
                    for sign, right in zip(node.ops, node.comparators):
                        if isinstance(sign, (ast.Is, ast.IsNot)):
                            self.assertTrue(isinstance(right, ast.Constant) and right.value in (None, True, False))
                if isinstance(node, ast.Raise) and node.exc is not None:
                    self.assertIsInstance(node.exc, ast.Call, at(path, node))

    def test_methods_of_builtin_values(self):
        own = {node.name for path, text, tree in each() for node in ast.walk(tree)
               if isinstance(node, ast.FunctionDef)}
        for path, text, tree in each():
            for node in ast.walk(tree):
                if isinstance(node, ast.Call) and isinstance(node.func, ast.Attribute):
                    self.assertIn(node.func.attr, METHODS | own, at(path, node))

    def test_methods_and_attributes(self):
        methods, assigned, read = set(), set(), set()
        builtin = {name for kind in (int, str, list, dict, set, tuple, bytes) for name in dir(kind)}
        for path, text, tree in each():
            for node in ast.walk(tree):
                if isinstance(node, ast.ClassDef):
                    methods |= {one.name for one in node.body if isinstance(one, ast.FunctionDef)}
                if isinstance(node, ast.Attribute):
                    (assigned if isinstance(node.ctx, ast.Store) else read).add(node.attr)
        methods.discard("__init__")
        self.assertFalse(methods & assigned)
        self.assertFalse((methods | assigned) & builtin)
        self.assertLessEqual(read - METHODS, methods | assigned)

    def test_what_is_iterated_at_once(self):
        takers = {"list", "tuple", "dict", "sorted", "sum", "any", "all", "enumerate", "zip", "bytes", "min", "max"}
        for path, text, tree in each():
            told = {id(node.iter) for node in ast.walk(tree) if isinstance(node, (ast.For, ast.comprehension))}
            for node in ast.walk(tree):
                if isinstance(node, ast.Call) and getattr(node.func, "id", None) in takers:
                    told |= {id(one) for one in node.args}
            for node in ast.walk(tree):
                passing = isinstance(node, ast.GeneratorExp)
                if isinstance(node, ast.Call):
                    passing = getattr(node.func, "id", None) in ("zip", "range", "enumerate", "reversed")
                    passing = passing or getattr(node.func, "attr", None) in ("items", "keys", "values")
                self.assertTrue(not passing or id(node) in told, at(path, node) if passing else "")


if __name__ == "__main__":
    unittest.main()
