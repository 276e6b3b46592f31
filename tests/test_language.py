"""The rules of ../shared/LANGUAGE.md that can be seen in the files of the package without much ado."""

import ast
import builtins
import pathlib
import re
import unittest

FOLDER = pathlib.Path(__file__).resolve().parent.parent / "crossedwishes"
FILES = sorted(FOLDER.glob("*.py"))

BUILTINS = set("""
    len range enumerate zip min max sum abs sorted reversed int str bool bytes list tuple dict set frozenset isinstance
    ord repr any all divmod Exception ValueError TypeError KeyError IndexError LookupError ZeroDivisionError
    ArithmeticError OverflowError RuntimeError NotImplementedError AttributeError StopIteration NotImplemented super
    property staticmethod classmethod
""".split())
BARRED_WORDS = """
    type typing typing_extensions enum Enum IntEnum StrEnum Flag IntFlag Generic Protocol ABC ABCMeta namedtuple
    NamedTuple TypedDict TYPE_CHECKING abstractmethod
""".split()
BARRED_NAMES = set("""
    register mro elements open input version_info with_traceback add_note attrgetter breakpoint builtins compile
    copyright credits delattr dir eval exec exit gc getattr globals hasattr help id importlib license locals
    methodcaller os quit setattr vars sys
""".split())
DOUBLE = set("""
    __init__ __eq__ __repr__ __str__ __len__ __enter__ __exit__ __call__ __iter__
""".split())
BARRED_NODES = (
    ast.Global, ast.AsyncFunctionDef, ast.AsyncFor, ast.AsyncWith, ast.Await, ast.Import, ast.Div,
)
LISTED_ONLY = ("any", "all", "min", "max", "sum", "sorted")


def bound_names(tree):
    """The names that a file gives, of whatever sort, but the methods."""
    for node in ast.walk(tree):
        if isinstance(node, ast.Name) and isinstance(node.ctx, ast.Store):
            yield node.id
        elif isinstance(node, ast.arg):
            yield node.arg
        elif isinstance(node, (ast.FunctionDef, ast.ClassDef)):
            yield node.name
        elif isinstance(node, ast.ExceptHandler) and node.name:
            yield node.name
        elif isinstance(node, ast.Attribute):
            yield node.attr


class Language(unittest.TestCase):
    def trees(self):
        for file in FILES:
            yield file.name, ast.parse(file.read_text(encoding="ascii"))

    def test_the_folder_holds_files_of_the_package_alone(self):
        others = [path.name for path in FOLDER.iterdir() if path not in FILES and path.name != "__pycache__"]
        self.assertEqual(others, [])
        for file in FILES:
            self.assertRegex(file.name, r"^(__init__|[a-z][a-z0-9_]*)\.py$")
            self.assertNotIn(file.stem, dir(builtins))

    def test_signs_sizes_and_words(self):
        for file in FILES:
            text = file.read_text(encoding="ascii")
            self.assertRegex(text, r"^[ -~\n]*$", file.name)
            lines = text.splitlines()
            self.assertLessEqual(len(lines), 400, file.name)
            self.assertLessEqual(max([len(line) for line in lines] + [0]), 120, file.name)
            for word in BARRED_WORDS:
                self.assertIsNone(re.search(rf"\b{word}\b", text), (file.name, word))
            self.assertIsNone(re.search("dataclass|overload|contextmanager", text), file.name)

    def test_functions_are_short(self):
        for name, tree in self.trees():
            for node in ast.walk(tree):
                if isinstance(node, ast.FunctionDef):
                    self.assertLessEqual(node.end_lineno - node.lineno + 1, 40, (name, node.name))
                    self.assertEqual(node.args.posonlyargs, [], (name, node.name))

    def test_imports(self):
        for name, tree in self.trees():
            for node in ast.walk(tree):
                if isinstance(node, ast.ImportFrom):
                    self.assertIn(node, tree.body, name)
                    self.assertEqual(node.level, 0, name)
                    self.assertTrue(node.module.startswith("crossedwishes."), (name, node.module))
                    self.assertNotIn("*", [part.name for part in node.names])

    def test_names_at_the_top_are_bound_once_to_plain_values(self):
        for name, tree in self.trees():
            names = []
            for node in tree.body:
                if isinstance(node, (ast.FunctionDef, ast.ClassDef)):
                    names.append(node.name)
                elif isinstance(node, ast.ImportFrom):
                    names.extend([part.asname or part.name for part in node.names])
                elif isinstance(node, ast.Assign):
                    names.append(node.targets[0].id)
                    self.assertEqual(len(node.targets), 1)
                    self.assertFalse([part for part in ast.walk(node.value) if isinstance(part, ast.Call)], name)
                else:
                    self.assertIsInstance(node, ast.Expr, name)
                    self.assertIsInstance(node.value.value, str, name)
            self.assertEqual(len(set(names)), len(names), name)

    def test_names(self):
        for name, tree in self.trees():
            for bound in bound_names(tree):
                self.assertNotIn(bound, BARRED_NAMES, name)
                self.assertTrue(not bound.startswith("_") or bound in DOUBLE, (name, bound))
            for node in ast.walk(tree):
                if isinstance(node, ast.Name) and isinstance(node.ctx, ast.Load) and node.id in dir(builtins):
                    self.assertIn(node.id, BUILTINS, (name, node.lineno))
                if isinstance(node, ast.arg) or isinstance(node, ast.Name) and isinstance(node.ctx, ast.Store):
                    self.assertNotIn(node.arg if isinstance(node, ast.arg) else node.id, dir(builtins), name)

    def test_no_name_in_a_function_is_that_of_an_import_or_a_class(self):
        for name, tree in self.trees():
            taken = {part.asname or part.name for node in tree.body if isinstance(node, ast.ImportFrom) for part in node.names}
            taken |= {node.name for node in tree.body if isinstance(node, ast.ClassDef)}
            for node in ast.walk(tree):
                if isinstance(node, ast.arg):
                    self.assertNotIn(node.arg, taken, name)
                if isinstance(node, ast.Name) and isinstance(node.ctx, ast.Store):
                    self.assertNotIn(node.id, taken, name)

    def test_what_a_table_holds_is_named_and_then_called(self):
        for name, tree in self.trees():
            for node in ast.walk(tree):
                if isinstance(node, ast.Call):
                    self.assertIsInstance(node.func, (ast.Name, ast.Attribute), (name, node.lineno))

    def test_statements_and_values(self):
        for name, tree in self.trees():
            for node in ast.walk(tree):
                self.assertNotIsInstance(node, BARRED_NODES, name)
                if isinstance(node, ast.Constant):
                    self.assertNotIsInstance(node.value, (float, complex), name)
                    self.assertNotIn("%", node.value if isinstance(node.value, str) else "", name)
                if isinstance(node, ast.Compare) and isinstance(node.ops[0], (ast.Is, ast.IsNot)):
                    self.assertIn(ast.unparse(node.comparators[0]), ("None", "True", "False"), name)
                if isinstance(node, ast.Call) and getattr(node.func, "id", "") in LISTED_ONLY:
                    # Classes with == are still to come, and beside them these take lists alone.
                    self.assertFalse([part for part in node.args if isinstance(part, ast.GeneratorExp)], name)

    def test_no_name_is_a_method_here_and_an_attribute_there(self):
        methods, attributes = set(), set()
        for name, tree in self.trees():
            for node in ast.walk(tree):
                if isinstance(node, ast.ClassDef):
                    methods |= {part.name for part in node.body if isinstance(part, ast.FunctionDef)}
                if isinstance(node, ast.Attribute) and isinstance(node.ctx, ast.Store):
                    attributes.add(node.attr)
        self.assertEqual(methods & attributes, set())
        self.assertEqual(attributes & set("items keys values pop update append clear extend insert remove args".split()), set())

    def test_methods_that_python_calls_change_nothing(self):
        for name, tree in self.trees():
            for node in ast.walk(tree):
                if isinstance(node, ast.FunctionDef) and node.name in ("__eq__", "__repr__", "__str__", "__len__"):
                    self.assertIsInstance(node.body[-1], ast.Return, (name, node.name))
                    barred = (ast.Assign, ast.AugAssign, ast.Delete, ast.NamedExpr)
                    self.assertFalse([part for part in ast.walk(node) if isinstance(part, barred)], (name, node.lineno))

    def test_own_errors_alone_are_caught_and_what_is_last_is_plain(self):
        own = {node.name for name, tree in self.trees() if name == "errors.py" for node in tree.body if isinstance(node, ast.ClassDef)}
        for name, tree in self.trees():
            for node in ast.walk(tree):
                if isinstance(node, ast.ExceptHandler):
                    caught = node.type.elts if isinstance(node.type, ast.Tuple) else [node.type]
                    self.assertLessEqual({part.id for part in caught}, own, (name, node.lineno))
                if isinstance(node, ast.Try):
                    for part in node.finalbody:
                        self.assertIsInstance(part, ast.Assign, (name, part.lineno))
                        self.assertIsInstance(part.value, (ast.Name, ast.Constant), (name, part.lineno))

    def test_sets_are_kept_in_one_function(self):
        for name, tree in self.trees():
            for node in ast.walk(tree):
                if isinstance(node, ast.Assign) and isinstance(node.value, ast.Call) and getattr(node.value.func, "id", "") == "set":
                    self.assertIsInstance(node.targets[0], ast.Name, (name, node.lineno))
                if isinstance(node, ast.Attribute) and node.attr == "sort":
                    self.fail((name, node.lineno))

    def test_no_two_files_import_one_another(self):
        ahead = {}
        for name, tree in self.trees():
            parts = [node.module.split(".")[1] + ".py" for node in tree.body if isinstance(node, ast.ImportFrom)]
            ahead[name] = set(parts)
        while ahead:
            free = [name for name in ahead if not ahead[name] & set(ahead)]
            self.assertTrue(free, ahead)
            for name in free:
                del ahead[name]


if __name__ == "__main__":
    unittest.main()
