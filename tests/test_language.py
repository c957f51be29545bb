"""Some rules of the language that can be read off the files; the others are kept by reading."""

import ast
import builtins
import pathlib
import re
import unittest

FOLDER = pathlib.Path(__file__).resolve().parent.parent / "farlanes"
BARRED = (
    "type typing typing_extensions enum Enum IntEnum StrEnum Flag IntFlag Generic Protocol ABC ABCMeta namedtuple "
    "NamedTuple TypedDict TYPE_CHECKING abstractmethod"
).split()
BUILTINS = (
    "len range enumerate zip min max sum abs sorted reversed int str bool bytes list tuple dict set frozenset "
    "isinstance ord repr any all divmod iter next super property staticmethod classmethod Exception ValueError "
    "TypeError KeyError IndexError LookupError ZeroDivisionError ArithmeticError OverflowError RuntimeError "
    "NotImplementedError NotImplemented"
).split()
BUILTIN_METHODS = (
    "append clear copy count endswith extend find get index insert isalnum isalpha isdigit islower isspace isupper "
    "items join keys ljust lower lstrip partition pop remove replace reverse rfind rjust rpartition rsplit rstrip "
    "setdefault split splitlines startswith strip update upper values zfill bit_length"
).split()
DOUBLE_METHODS = ("__init__", "__eq__", "__repr__", "__str__", "__len__")
UNUSED_NODES = (ast.Global, ast.AsyncFunctionDef, ast.AsyncFor, ast.AsyncWith, ast.Await, ast.Import, ast.Div)
LIST_TAKERS = ("any", "all", "min", "max", "sum", "sorted")


def files():
    return sorted(FOLDER.rglob("*.py"))


def module_names(tree):
    """The names that a file binds at its module level, each time that it does so."""
    for node in tree.body:
        if isinstance(node, ast.ImportFrom):
            yield from [alias.asname or alias.name for alias in node.names]
        elif isinstance(node, (ast.FunctionDef, ast.ClassDef)):
            yield node.name
        elif isinstance(node, ast.Assign):
            yield from [target.id for target in node.targets]


def imported_files(tree):
    """The files of the package that a file imports from."""
    return [node.module.split(".")[1] for node in tree.body if isinstance(node, ast.ImportFrom)]


def bound_names(tree):
    """The names that parameters and local variables have."""
    for node in ast.walk(tree):
        if isinstance(node, ast.arg):
            yield node.arg
        if isinstance(node, ast.Name) and isinstance(node.ctx, ast.Store):
            yield node.id


class Language(unittest.TestCase):
    def each(self):
        for path in files():
            text = path.read_text(encoding="utf-8")
            yield text, ast.parse(text, path.name)

    def test_the_folder_has_only_files_of_the_package(self):
        others = [path for path in FOLDER.rglob("*") if path.is_file() and "__pycache__" not in path.parts]
        self.assertEqual(sorted(others), files())
        self.assertIn(FOLDER / "__init__.py", files())

    def test_sizes(self):
        for text, tree in self.each():
            lines = text.split("\n")
            self.assertLessEqual(len(lines), 400)
            self.assertLessEqual(max(len(line) for line in lines), 120)
            for node in ast.walk(tree):
                if isinstance(node, ast.FunctionDef):
                    self.assertLessEqual(node.end_lineno - node.lineno + 1, 40, node.name)

    def test_characters_and_words(self):
        for text, tree in self.each():
            self.assertTrue(all(sign == "\n" or " " <= sign <= "~" for sign in text))
            words = re.findall(r"\w+", text)
            self.assertEqual([word for word in words if word in BARRED], [])
            self.assertIsNone(re.search("dataclass|overload|contextmanager", text))
            strings = [node.value for node in ast.walk(tree) if isinstance(node, ast.Constant)]
            self.assertEqual([each for each in strings if isinstance(each, str) and "%" in each], [])

    def test_imports(self):
        for text, tree in self.each():
            for node in ast.walk(tree):
                if isinstance(node, ast.ImportFrom):
                    self.assertTrue(node.module.startswith("farlanes."))
                    self.assertIn(node, tree.body)
                    defined = (FOLDER / (node.module.split(".")[1] + ".py")).read_text(encoding="utf-8")
                    for alias in node.names:
                        self.assertRegex(defined, rf"(?m)^(def |class |){alias.name}\b")

    def test_statements_and_expressions(self):
        for text, tree in self.each():
            for node in ast.walk(tree):
                self.assertNotIsInstance(node, UNUSED_NODES)
                self.assertFalse(isinstance(node, ast.Constant) and isinstance(node.value, float))
                if isinstance(node, ast.Call) and isinstance(node.func, ast.Name) and node.func.id in LIST_TAKERS:
                    self.assertNotIsInstance(node.args[0], ast.GeneratorExp)

    def test_names(self):
        for text, tree in self.each():
            taken = [node.name for node in tree.body if isinstance(node, ast.ClassDef)]
            for node in tree.body:
                if isinstance(node, ast.ImportFrom):
                    taken += [alias.asname or alias.name for alias in node.names]
            for name in bound_names(tree):
                self.assertFalse(name.startswith("_"), name)
                self.assertNotIn(name, taken)
                self.assertFalse(hasattr(builtins, name), name)

    def test_builtins(self):
        for text, tree in self.each():
            for node in ast.walk(tree):
                if isinstance(node, ast.Name) and hasattr(builtins, node.id):
                    self.assertIn(node.id, BUILTINS)

    def test_no_name_is_a_method_and_an_attribute(self):
        methods, attributes = {}, {}
        for text, tree in self.each():
            for node in ast.walk(tree):
                if isinstance(node, ast.ClassDef):
                    methods.update({each.name: True for each in node.body if isinstance(each, ast.FunctionDef)})
                if isinstance(node, ast.Attribute) and isinstance(node.ctx, ast.Store):
                    attributes[node.attr] = True
        self.assertEqual([name for name in attributes if name in methods], [])

    def test_module_level(self):
        for text, tree in self.each():
            kinds = (ast.ImportFrom, ast.FunctionDef, ast.ClassDef, ast.Assign, ast.Expr)
            self.assertEqual([node for node in tree.body if not isinstance(node, kinds)], [])
            names = list(module_names(tree))
            self.assertEqual(len(names), len(set(names)), names)

    def test_no_files_import_each_other(self):
        needed = {path.stem: imported_files(ast.parse(path.read_text(encoding="utf-8"))) for path in files()}
        while needed:
            free = [name for name in needed if not any(other in needed for other in needed[name])]
            self.assertNotEqual(free, [], needed)
            for name in free:
                del needed[name]

    def test_all_imports_are_used(self):
        for text, tree in self.each():
            used = {node.id for node in ast.walk(tree) if isinstance(node, ast.Name)}
            for node in tree.body:
                if isinstance(node, ast.ImportFrom):
                    self.assertEqual([alias.name for alias in node.names if alias.name not in used], [])

    def test_errors_are_raised_and_caught_by_name(self):
        own = [node.name for node in ast.parse((FOLDER / "errors.py").read_text(encoding="utf-8")).body[1:]]
        for text, tree in self.each():
            for node in ast.walk(tree):
                if isinstance(node, ast.Raise):
                    self.assertIsInstance(node.exc, ast.Call)
                    self.assertIn(node.exc.func.id, own)
                if isinstance(node, ast.ExceptHandler):
                    kinds = node.type.elts if isinstance(node.type, ast.Tuple) else [node.type]
                    self.assertEqual([kind.id for kind in kinds if kind.id not in own], [])

    def test_is_stands_beside_none(self):
        for text, tree in self.each():
            for node in ast.walk(tree):
                if isinstance(node, ast.Compare) and isinstance(node.ops[0], (ast.Is, ast.IsNot)):
                    self.assertIn(node.comparators[0].value, (None, True, False))

    def test_methods(self):
        own = {}
        for text, tree in self.each():
            for node in ast.walk(tree):
                if isinstance(node, ast.ClassDef):
                    own.update({each.name: True for each in node.body if isinstance(each, ast.FunctionDef)})
        self.assertEqual([name for name in own if name.startswith("_") and name not in DOUBLE_METHODS], [])
        kinds = (str, int, list, dict, set, bytes)
        taken = [name for name in own if any(hasattr(kind, name) for kind in kinds)]
        self.assertEqual([name for name in taken if name not in DOUBLE_METHODS], [])
        for text, tree in self.each():
            for node in ast.walk(tree):
                if isinstance(node, ast.Call) and isinstance(node.func, ast.Attribute):
                    self.assertTrue(node.func.attr in own or node.func.attr in BUILTIN_METHODS, node.func.attr)

    def test_double_methods_assign_nothing(self):
        for text, tree in self.each():
            for node in ast.walk(tree):
                if isinstance(node, ast.FunctionDef) and node.name in DOUBLE_METHODS[1:]:
                    self.assertIsInstance(node.body[-1], ast.Return)
                    for each in ast.walk(node):
                        self.assertNotIsInstance(each, (ast.Assign, ast.AugAssign, ast.Delete))

    def test_attributes_that_are_read_are_assigned(self):
        stored, read = {}, {}
        for text, tree in self.each():
            called = [node.func for node in ast.walk(tree) if isinstance(node, ast.Call)]
            for node in ast.walk(tree):
                if isinstance(node, ast.Attribute) and isinstance(node.ctx, ast.Store):
                    stored[node.attr] = True
                elif isinstance(node, ast.Attribute) and node not in called:
                    read[node.attr] = True
        self.assertEqual([name for name in read if name not in stored], [])

    def test_functions(self):
        for text, tree in self.each():
            for node in ast.walk(tree):
                if isinstance(node, ast.FunctionDef):
                    self.assertEqual(node.decorator_list, [])
                    self.assertEqual(node.args.posonlyargs, [])
                    self.assertIsNotNone(ast.get_docstring(node) or node.name.startswith("__"))
                self.assertNotIsInstance(node, (ast.GeneratorExp, ast.Set, ast.AnnAssign, ast.Yield, ast.NamedExpr))


if __name__ == "__main__":
    unittest.main()
