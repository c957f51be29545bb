"""Some rules of the language that can be read off the files; the others are kept by reading."""

import ast
import builtins
import pathlib
import re
import unittest

FOLDER = pathlib.Path(__file__).resolve().parent.parent / "farlanes"
BARRED = (
    "type typing typing_extensions enum Enum IntEnum StrEnum Flag IntFlag Generic Protocol ABC ABCMeta namedtuple "
    "NamedTuple TypedDict TYPE_CHECKING abstractmethod"
).split()
BUILTINS = (
    "len range enumerate zip min max sum abs sorted reversed int str bool bytes list tuple dict set frozenset "
    "isinstance ord repr any all divmod iter next super property staticmethod classmethod Exception ValueError "
    "TypeError KeyError IndexError LookupError ZeroDivisionError ArithmeticError OverflowError RuntimeError "
    "NotImplementedError NotImplemented"
).split()
UNUSED_NODES = (ast.Global, ast.AsyncFunctionDef, ast.AsyncFor, ast.AsyncWith, ast.Await, ast.Import, ast.Div)
LIST_TAKERS = ("any", "all", "min", "max", "sum", "sorted")


def files():
    return sorted(FOLDER.rglob("*.py"))


def bound_names(tree):
    """The names that parameters and local variables have."""
    for node in ast.walk(tree):
        if isinstance(node, ast.arg):
            yield node.arg
        if isinstance(node, ast.Name) and isinstance(node.ctx, ast.Store):
            yield node.id


class Language(unittest.TestCase):
    def each(self):
        for path in files():
            text = path.read_text(encoding="utf-8")
            yield text, ast.parse(text, path.name)

    def test_the_folder_has_only_files_of_the_package(self):
        others = [path for path in FOLDER.rglob("*") if path.is_file() and "__pycache__" not in path.parts]
        self.assertEqual(sorted(others), files())
        self.assertIn(FOLDER / "__init__.py", files())

    def test_sizes(self):
        for text, tree in self.each():
            lines = text.split("\n")
            self.assertLessEqual(len(lines), 400)
            self.assertLessEqual(max(len(line) for line in lines), 120)
            for node in ast.walk(tree):
                if isinstance(node, ast.FunctionDef):
                    self.assertLessEqual(node.end_lineno - node.lineno + 1, 40, node.name)

    def test_characters_and_words(self):
        for text, tree in self.each():
            self.assertTrue(all(sign == "\n" or " " <= sign <= "~" for sign in text))
            words = re.findall(r"\w+", text)
            self.assertEqual([word for word in words if word in BARRED], [])
            self.assertIsNone(re.search("dataclass|overload|contextmanager", text))
            strings = [node.value for node in ast.walk(tree) if isinstance(node, ast.Constant)]
            self.assertEqual([each for each in strings if isinstance(each, str) and "%" in each], [])

    def test_imports(self):
        for text, tree in self.each():
            for node in ast.walk(tree):
                if isinstance(node, ast.ImportFrom):
                    self.assertTrue(node.module.startswith("farlanes."))
                    self.assertIn(node, tree.body)
                    defined = (FOLDER / (node.module.split(".")[1] + ".py")).read_text(encoding="utf-8")
                    for alias in node.names:
                        self.assertRegex(defined, rf"(?m)^(def |class |){alias.name}\b")

    def test_statements_and_expressions(self):
        for text, tree in self.each():
            for node in ast.walk(tree):
                self.assertNotIsInstance(node, UNUSED_NODES)
                self.assertFalse(isinstance(node, ast.Constant) and isinstance(node.value, float))
                if isinstance(node, ast.Call) and isinstance(node.func, ast.Name) and node.func.id in LIST_TAKERS:
                    self.assertNotIsInstance(node.args[0], ast.GeneratorExp)

    def test_names(self):
        for text, tree in self.each():
            taken = [node.name for node in tree.body if isinstance(node, ast.ClassDef)]
            for node in tree.body:
                if isinstance(node, ast.ImportFrom):
                    taken += [alias.asname or alias.name for alias in node.names]
            for name in bound_names(tree):
                self.assertFalse(name.startswith("_"), name)
                self.assertNotIn(name, taken)
                self.assertFalse(hasattr(builtins, name), name)

    def test_builtins(self):
        for text, tree in self.each():
            for node in ast.walk(tree):
                if isinstance(node, ast.Name) and hasattr(builtins, node.id):
                    self.assertIn(node.id, BUILTINS)

    def test_no_name_is_a_method_and_an_attribute(self):
        methods, attributes = {}, {}
        for text, tree in self.each():
            for node in ast.walk(tree):
                if isinstance(node, ast.ClassDef):
                    methods.update({each.name: True for each in node.body if isinstance(each, ast.FunctionDef)})
                if isinstance(node, ast.Attribute) and isinstance(node.ctx, ast.Store):
                    attributes[node.attr] = True
        self.assertEqual([name for name in attributes if name in methods], [])


if __name__ == "__main__":
    unittest.main()
