"""[45] The names in the modules, and that each class has itself what the interface lists for it."""

import ast
import importlib
import inspect
import os
import unittest

import keptnomore

FOLDER = os.path.dirname(os.path.abspath(keptnomore.__file__))

MODULES = {
    "errors": ("KeptError", "NoKinds", "NoRules", "NoQuestion", "NoTree", "NoBundle", "TooMany", "TooGreat",
               "UnknownKind", "NoDocument", "NoEvent", "Refused", "RefusedAt", "Resting", "OtherSpace", "NoCommand",
               "NotPending"),
    "trees": ("Tree", "words_of", "events_of"),
    "kinds": ("Kinds",),
    "questions": ("Question",),
}

# What the interface lists for a class, with the names of the arguments.
METHODS = {
    ("trees", "Tree"): {
        "__init__": ("name", "mark", "children"), "__len__": (), "__iter__": (), "__eq__": None, "events": (),
        "__str__": (), "read": ("text",), "from_events": ("events",)},
    ("kinds", "Kinds"): {
        "read": ("text",), "__str__": (), "__eq__": None, "__len__": (), "__contains__": None, "of": ("tree",),
        "table": ("tree",)},
    ("questions", "Question"): {
        "read": ("text",), "__str__": (), "__eq__": None, "__and__": None, "__or__": None, "__invert__": (),
        "picks": ("kinds", "tree")},
}


def module_named(name):
    return importlib.import_module(f"keptnomore.{name}")


def body_of(path):
    with open(path, encoding="utf-8") as file:
        return ast.parse(file.read()).body


class Names(unittest.TestCase):
    def test_each_name_is_defined_in_its_file(self):
        for module, names in MODULES.items():
            body = body_of(os.path.join(FOLDER, f"{module}.py"))
            defined = [node.name for node in body if isinstance(node, (ast.FunctionDef, ast.ClassDef))]
            for name in names:
                with self.subTest(f"{module}.{name}"):
                    self.assertIn(name, defined)
                    self.assertEqual(getattr(module_named(module), name).__module__, f"keptnomore.{module}")

    def test_each_class_has_its_methods_itself(self):
        for (module, name), methods in METHODS.items():
            owner = getattr(module_named(module), name)
            for method, arguments in methods.items():
                with self.subTest(f"{name}.{method}"):
                    self.assertIn(method, vars(owner))
                    if arguments is not None:
                        given = list(inspect.signature(getattr(owner, method)).parameters)
                        self.assertEqual([word for word in given if word != "self"], list(arguments))

    def test_arguments_of_functions(self):
        trees = module_named("trees")
        self.assertEqual(list(inspect.signature(trees.words_of).parameters), ["events"])
        self.assertEqual(list(inspect.signature(trees.events_of).parameters), ["text"])

    def test_reading_needs_no_object(self):
        self.assertEqual(str(module_named("trees").Tree.read("a:1 /")), "a:1 /")
        self.assertEqual(str(module_named("kinds").Kinds.read("kind A of a")), "kind A of a")
        self.assertEqual(str(module_named("questions").Question.read("root")), "root")

    def test_the_package_file_has_only_a_docstring(self):
        body = body_of(os.path.join(FOLDER, "__init__.py"))
        self.assertEqual(len(body), 1)
        self.assertIsInstance(body[0], ast.Expr)
        self.assertIsInstance(body[0].value.value, str)
        self.assertTrue(keptnomore.__doc__)


class Files(unittest.TestCase):
    """A few of the language's rules that are easily broken by accident."""

    def files(self):
        for name in sorted(os.listdir(FOLDER)):
            if name != "__pycache__":
                yield name, os.path.join(FOLDER, name)

    def test_only_python_files(self):
        for name, path in self.files():
            with self.subTest(name):
                self.assertTrue(os.path.isfile(path))
                self.assertTrue(name.endswith(".py"))

    def test_signs_and_sizes(self):
        for name, path in self.files():
            with open(path, encoding="utf-8", newline="") as file:
                text = file.read()
            lines = text.split("\n")
            with self.subTest(name):
                self.assertTrue(all(sign == "\n" or " " <= sign <= "~" for sign in text))
                self.assertLessEqual(len(lines), 399)
                self.assertLessEqual(max(len(line) for line in lines), 120)
            for node in ast.walk(ast.parse(text)):
                if isinstance(node, ast.FunctionDef):
                    with self.subTest(f"{name}: {node.name}"):
                        self.assertLessEqual(node.end_lineno - node.lineno + 1, 40)

    def test_imports_are_of_the_package_alone(self):
        allowed = ("keptnomore.", "heapq", "math", "itertools", "__future__")
        for name, path in self.files():
            imports = [node for node in body_of(path) if isinstance(node, (ast.Import, ast.ImportFrom))]
            for node in imports:
                with self.subTest(f"{name}, line {node.lineno}"):
                    if isinstance(node, ast.ImportFrom):
                        self.assertEqual(node.level, 0)
                        self.assertTrue(node.module.startswith(allowed))
                    else:
                        self.assertEqual(name, "__main__.py")


if __name__ == "__main__":
    unittest.main()
