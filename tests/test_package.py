"""[45] The names in the modules, and that each class has itself what the interface lists for it."""

import ast
import doctest
import importlib
import inspect
import os
import unittest

import keptnomore

FOLDER = os.path.dirname(os.path.abspath(keptnomore.__file__))

MODULES = {
    "errors": ("KeptError", "NoKinds", "NoRules", "NoQuestion", "NoTree", "NoBundle", "TooMany", "TooGreat",
               "UnknownKind", "NoDocument", "NoEvent", "Refused", "RefusedAt", "Resting", "OtherSpace", "NoCommand",
               "NotPending"),
    "trees": ("Tree", "words_of", "events_of"),
    "kinds": ("Kinds",),
    "rules": ("Rules",),
    "questions": ("Question",),
    "spaces": ("Space",),
    "houses": ("House",),
    "partings": ("width",),
    "papers": ("Paper",),
    "bundles": ("Bundle",),
    "compared": ("says", "parted", "stricter", "let_apart"),
    "desk": ("Desk",),
}

# What the interface lists for a class, with the names of the arguments.
METHODS = {
    ("trees", "Tree"): {
        "__init__": ("name", "mark", "children"), "__len__": (), "__iter__": (), "__eq__": None, "events": (),
        "__str__": (), "read": ("text",), "from_events": ("events",)},
    ("kinds", "Kinds"): {
        "read": ("text",), "__str__": (), "__eq__": None, "__len__": (), "__contains__": None, "of": ("tree",),
        "table": ("tree",)},
    ("questions", "Question"): {
        "read": ("text",), "__str__": (), "__eq__": None, "__and__": None, "__or__": None, "__invert__": (),
        "picks": ("kinds", "tree")},
    ("rules", "Rules"): {
        "read": ("text",), "__str__": (), "__eq__": None, "lets": ("kinds", "tree")},
    ("spaces", "Space"): {
        "__init__": ("kinds", "rules", "questions"), "__eq__": None, "__len__": (), "kinds": None, "rules": None,
        "questions": None},
    ("houses", "House"): {
        "__init__": ("space",), "take": ("event",), "__call__": ("event",), "run": ("events",), "over": ("events",),
        "pending": (), "heaps": (), "may": (), "depth": None, "is_resting": None, "ending": ("free",), "copied": (),
        "trial": (), "tried": ("work",), "is_alike": ("other",), "space": None, "kept": (), "read": ("space", "text"),
        "parting": ("other", "free"), "shortest": ("free",), "without": ("number",), "hopes": (),
        "why": ("question", "mark", "free"), "put": ("bundle",)},
    ("papers", "Paper"): {
        "__init__": ("question", "mark", "yes", "no"), "__eq__": None, "holds": ("space", "events")},
    ("bundles", "Bundle"): {
        "__init__": ("space", "events"), "space": None, "trees": None, "__iter__": (), "__len__": (), "__str__": (),
        "read": ("space", "text"), "glued": ("other",), "is_like": ("other",), "unlike": ("other", "free")},
    ("desk", "Desk"): {"__init__": (), "say": ("row",), "__len__": ()},
}

FUNCTIONS = {
    ("trees", "words_of"): ("events",), ("trees", "events_of"): ("text",), ("partings", "width"): ("space", "depth"),
    ("compared", "says"): ("space", "one", "other"), ("compared", "parted"): ("space", "one", "other", "free"),
    ("compared", "stricter"): ("kinds", "one", "other"), ("compared", "let_apart"): ("kinds", "one", "other", "free"),
}

PROPERTIES = (("spaces", "Space", "kinds"), ("spaces", "Space", "rules"), ("spaces", "Space", "questions"),
              ("houses", "House", "depth"), ("houses", "House", "is_resting"), ("houses", "House", "space"),
              ("bundles", "Bundle", "space"), ("bundles", "Bundle", "trees"))


def module_named(name):
    return importlib.import_module(f"keptnomore.{name}")


def body_of(path):
    with open(path, encoding="utf-8") as file:
        return ast.parse(file.read()).body


class Names(unittest.TestCase):
    def test_each_name_is_defined_in_its_file(self):
        for module, names in MODULES.items():
            body = body_of(os.path.join(FOLDER, f"{module}.py"))
            defined = [node.name for node in body if isinstance(node, (ast.FunctionDef, ast.ClassDef))]
            for name in names:
                with self.subTest(f"{module}.{name}"):
                    self.assertIn(name, defined)
                    self.assertEqual(getattr(module_named(module), name).__module__, f"keptnomore.{module}")

    def test_each_class_has_its_methods_itself(self):
        for (module, name), methods in METHODS.items():
            owner = getattr(module_named(module), name)
            for method, arguments in methods.items():
                with self.subTest(f"{name}.{method}"):
                    self.assertIn(method, vars(owner))
                    if arguments is not None:
                        given = list(inspect.signature(getattr(owner, method)).parameters)
                        self.assertEqual([word for word in given if word != "self"], list(arguments))

    def test_arguments_of_functions(self):
        for (module, name), arguments in FUNCTIONS.items():
            with self.subTest(name):
                given = inspect.signature(getattr(module_named(module), name)).parameters
                self.assertEqual(list(given), list(arguments))

    def test_free_is_passed_by_name(self):
        works = [getattr(module_named(module), name) for module, name in FUNCTIONS]
        works += [getattr(getattr(module_named(module), name), method)
                  for (module, name), methods in METHODS.items() for method in methods]
        found = 0
        for work in works:
            if callable(work) and "free" in inspect.signature(work).parameters:
                self.assertEqual(inspect.signature(work).parameters["free"].kind, inspect.Parameter.KEYWORD_ONLY)
                found += 1
        self.assertEqual(found, 7)

    def test_properties(self):
        for module, name, word in PROPERTIES:
            with self.subTest(f"{name}.{word}"):
                self.assertIsInstance(vars(getattr(module_named(module), name))[word], property)

    def test_reading_needs_no_object(self):
        self.assertEqual(str(module_named("trees").Tree.read("a:1 /")), "a:1 /")
        self.assertEqual(str(module_named("kinds").Kinds.read("kind A of a")), "kind A of a")
        self.assertEqual(str(module_named("questions").Question.read("root")), "root")
        self.assertEqual(str(module_named("rules").Rules.read("all A")), "all A")

    def test_the_package_file_has_only_a_docstring(self):
        body = body_of(os.path.join(FOLDER, "__init__.py"))
        self.assertEqual(len(body), 1)
        self.assertIsInstance(body[0], ast.Expr)
        self.assertIsInstance(body[0].value.value, str)
        self.assertTrue(keptnomore.__doc__)


class Readme(unittest.TestCase):
    def test_its_examples(self):
        path = os.path.join(os.path.dirname(FOLDER), "README.md")
        failed, tried = doctest.testfile(path, module_relative=False, encoding="utf-8")
        self.assertEqual(failed, 0)
        self.assertGreater(tried, 10)


class Files(unittest.TestCase):
    """A few of the language's rules that are easily broken by accident."""

    def files(self):
        for name in sorted(os.listdir(FOLDER)):
            if name != "__pycache__":
                yield name, os.path.join(FOLDER, name)

    def test_only_python_files(self):
        for name, path in self.files():
            with self.subTest(name):
                self.assertTrue(os.path.isfile(path))
                self.assertTrue(name.endswith(".py"))

    def test_signs_and_sizes(self):
        for name, path in self.files():
            with open(path, encoding="utf-8", newline="") as file:
                text = file.read()
            lines = text.split("\n")
            with self.subTest(name):
                self.assertTrue(all(sign == "\n" or " " <= sign <= "~" for sign in text))
                self.assertLessEqual(len(lines), 399)
                self.assertLessEqual(max(len(line) for line in lines), 120)
            for node in ast.walk(ast.parse(text)):
                if isinstance(node, ast.FunctionDef):
                    with self.subTest(f"{name}: {node.name}"):
                        self.assertLessEqual(node.end_lineno - node.lineno + 1, 40)

    def test_imports_are_of_the_package_alone(self):
        allowed = ("keptnomore.", "heapq", "math", "itertools", "__future__")
        for name, path in self.files():
            imports = [node for node in body_of(path) if isinstance(node, (ast.Import, ast.ImportFrom))]
            for node in imports:
                with self.subTest(f"{name}, line {node.lineno}"):
                    if isinstance(node, ast.ImportFrom):
                        self.assertEqual(node.level, 0)
                        self.assertTrue(node.module.startswith(allowed))
                    else:
                        self.assertEqual(name, "__main__.py")


if __name__ == "__main__":
    unittest.main()
