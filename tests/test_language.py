"""What can be seen at once of ../shared/LANGUAGE.md, in each file of the package."""

import ast
import builtins
import pathlib
import re
import unittest

PACKAGE = pathlib.Path(__file__).resolve().parent.parent / "mouthrules"
FILES = sorted(PACKAGE.glob("*.py"))

BARRED_WORDS = ("type", "typing", "typing_extensions", "enum", "Enum", "IntEnum", "StrEnum", "Flag", "IntFlag",
                "Generic", "Protocol", "ABC", "ABCMeta", "namedtuple", "NamedTuple", "TypedDict", "TYPE_CHECKING",
                "abstractmethod")
BARRED_PARTS = ("dataclass", "overload", "contextmanager")
BARRED_NAMES = ("register", "mro", "elements", "open", "input", "law", "version_info", "with_traceback", "add_note")
DOUBLE = ("__init__", "__eq__", "__repr__", "__str__", "__len__")


def tree_of(file):
    return ast.parse(file.read_text(encoding="utf-8"))


def functions_in(tree):
    return [node for node in ast.walk(tree) if isinstance(node, ast.FunctionDef)]


def parameters_of(function):
    told = function.args
    return [one.arg for one in (*told.posonlyargs, *told.args, *told.kwonlyargs, told.vararg, told.kwarg) if one]


def bound_in(tree):
    """Names that are bound somewhere, but for methods and attributes."""
    bound = [node.id for node in ast.walk(tree) if isinstance(node, ast.Name) and not isinstance(node.ctx, ast.Load)]
    for function in functions_in(tree):
        bound.extend(parameters_of(function))
    bound.extend(node.name for node in tree.body if isinstance(node, (ast.FunctionDef, ast.ClassDef)))
    return bound


def plain_value(node, functions):
    """Whether this is a plain value, or a dict of functions defined above, which holds no list and no dict."""
    if isinstance(node, ast.Dict):
        return all(plain_value(key, ()) and plain_value(worth, functions) and not isinstance(worth, (ast.Dict, ast.List))
                   for key, worth in zip(node.keys, node.values))
    if isinstance(node, ast.Name):
        return node.id in functions
    ast.literal_eval(node)
    return True


def methods_in(tree):
    return [node.name for made in ast.walk(tree) if isinstance(made, ast.ClassDef)
            for node in made.body if isinstance(node, ast.FunctionDef)]


def stored_attributes(tree):
    return [node.attr for node in ast.walk(tree) if isinstance(node, ast.Attribute) and isinstance(node.ctx, ast.Store)]


class LanguageTest(unittest.TestCase):
    def test_the_folder_holds_its_files_alone(self):
        there = [path for path in PACKAGE.iterdir() if path.name != "__pycache__"]
        self.assertEqual(sorted(there), FILES)
        self.assertIn("__init__.py", [file.name for file in FILES])

    def test_sizes_and_characters(self):
        for file in FILES:
            with self.subTest(file=file.name):
                text = file.read_text(encoding="utf-8")
                lines = text.split("\n")
                self.assertLessEqual(len(lines) - 1, 399)
                self.assertLessEqual(max(len(line) for line in lines), 120)
                self.assertTrue(all(" " <= sign <= "~" or sign == "\n" for sign in text))
                for function in functions_in(tree_of(file)):
                    self.assertLessEqual(function.end_lineno - function.lineno + 1, 40, function.name)

    def test_barred_words(self):
        for file in FILES:
            with self.subTest(file=file.name):
                text = file.read_text(encoding="utf-8")
                words = re.findall(r"\w+", text)
                self.assertEqual([word for word in BARRED_WORDS if word in words], [])
                self.assertEqual([part for part in BARRED_PARTS if part in text], [])

    def test_imports_are_from_files_of_the_package(self):
        for file in FILES:
            with self.subTest(file=file.name):
                for node in ast.walk(tree_of(file)):
                    self.assertNotIsInstance(node, ast.Import)
                    if isinstance(node, ast.ImportFrom):
                        self.assertRegex(node.module, r"\Amouthrules\.[a-z_]+\Z")
                        self.assertEqual(node.level, 0)
                        self.assertTrue((PACKAGE / (node.module.split(".")[1] + ".py")).exists())

    def test_all_that_is_imported_is_used(self):
        for file in FILES:
            with self.subTest(file=file.name):
                tree = tree_of(file)
                used = {node.id for node in ast.walk(tree) if isinstance(node, ast.Name)}
                for node in tree.body:
                    if isinstance(node, ast.ImportFrom):
                        self.assertEqual([one.name for one in node.names if one.name not in used], [])

    def test_names(self):
        for file in FILES:
            with self.subTest(file=file.name):
                tree = tree_of(file)
                for name in bound_in(tree):
                    self.assertFalse(name.startswith("_"), name)
                    self.assertNotIn(name, vars(builtins))
                    self.assertNotIn(name, BARRED_NAMES)
                for name in methods_in(tree) + stored_attributes(tree):
                    self.assertTrue(name in DOUBLE or not name.startswith("_"), name)
                    self.assertNotIn(name, BARRED_NAMES)

    def test_no_name_is_a_method_here_and_an_attribute_there(self):
        methods, attributes = set(), set()
        for file in FILES:
            methods.update(methods_in(tree_of(file)))
            attributes.update(stored_attributes(tree_of(file)))
        self.assertEqual(methods & attributes, set())

    def test_strings_without_the_barred_sign(self):
        for file in FILES:
            with self.subTest(file=file.name):
                for node in ast.walk(tree_of(file)):
                    if isinstance(node, ast.Constant) and isinstance(node.value, str):
                        self.assertNotIn("%", node.value)

    def test_module_level_holds_plain_values_alone(self):
        for file in FILES:
            with self.subTest(file=file.name):
                names = []
                for node in tree_of(file).body:
                    if isinstance(node, ast.Assign):
                        (target,) = node.targets
                        self.assertTrue(plain_value(node.value, names), target.id)
                        names.append(target.id)
                    elif isinstance(node, ast.Expr):
                        self.assertIsInstance(node.value.value, str)
                    else:
                        self.assertIsInstance(node, (ast.ImportFrom, ast.FunctionDef, ast.ClassDef))
                        names.extend(one.name for one in getattr(node, "names", [node]))
                self.assertEqual(len(names), len(set(names)))

    def test_no_file_imports_itself_through_others(self):
        imported = {file.stem: {node.module.split(".")[1] for node in tree_of(file).body
                                if isinstance(node, ast.ImportFrom)} for file in FILES}
        for start in imported:
            with self.subTest(file=start):
                reached, waiting = set(), list(imported[start])
                while waiting:
                    name = waiting.pop()
                    if name not in reached:
                        reached.add(name)
                        waiting.extend(imported[name])
                self.assertNotIn(start, reached)

    def test_is_stands_with_none_true_and_false_alone(self):
        for file in FILES:
            for node in ast.walk(tree_of(file)):
                if isinstance(node, ast.Compare) and any(isinstance(sign, (ast.Is, ast.IsNot)) for sign in node.ops):
                    with self.subTest(file=file.name, line=node.lineno):
                        self.assertIsInstance(node.comparators[-1], ast.Constant)
                        self.assertIn(node.comparators[-1].value, (None, True, False))

    def test_what_classes_that_compare_bar(self):
        for file in FILES:
            for node in ast.walk(tree_of(file)):
                if isinstance(node, ast.Call) and isinstance(node.func, ast.Name):
                    if node.func.id in ("any", "all", "min", "max", "sum", "sorted"):
                        with self.subTest(file=file.name, line=node.lineno):
                            self.assertFalse([one for one in node.args if isinstance(one, ast.GeneratorExp)])
                if isinstance(node, ast.Call) and isinstance(node.func, ast.Attribute):
                    self.assertNotEqual(node.func.attr, "sort", file.name)

    def test_statements_and_values_that_are_barred(self):
        barred = (ast.Global, ast.AsyncFunctionDef, ast.AsyncFor, ast.AsyncWith, ast.Await, ast.Div)
        for file in FILES:
            with self.subTest(file=file.name):
                for node in ast.walk(tree_of(file)):
                    self.assertNotIsInstance(node, barred)
                    if isinstance(node, ast.Constant):
                        self.assertNotIsInstance(node.value, (float, complex))


if __name__ == "__main__":
    unittest.main()
