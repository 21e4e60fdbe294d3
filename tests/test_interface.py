"""The interface: names and parameters as written, each one defined in the file under which it is listed."""

import ast
import inspect
import pathlib
import unittest

from onlytell import errors, stores, tellings
from tests.helpers import three_keys
from tests.test_errors import NAMES

FOLDER = pathlib.Path(__file__).resolve().parent.parent / "onlytell"

# The files in a sequence in which they can be written; forms.py is ours, the others are the interface's.
SEQUENCE = ("errors", "forms", "tellings", "stores")

# For each class its parameters, its methods with theirs, and the attributes that each object has.
CLASSES = {
    "tellings": {"Telling": (("book", "effects"), {"back": ("worths",)}, ("book", "effects"))},
    "stores": {"Store": (("book", "worths"), {"drop": ("key",)}, ("book", "worths"))},
}
SIGNS = {
    "Telling": ("__getitem__", "__contains__", "__len__", "__add__", "__eq__"),
    "Store": ("__getitem__", "__setitem__", "__contains__", "__len__", "__eq__", "__ior__"),
}
MODULES = {"tellings": tellings, "stores": stores}
OBJECTS = {
    "Telling": tellings.Telling(three_keys(), ()),
    "Store": stores.Store(three_keys(), (0, 0, 0)),
}


def tree_of(name):
    return ast.parse((FOLDER / f"{name}.py").read_text(encoding="utf-8"))


def defined_classes(name):
    return {node.name: node for node in tree_of(name).body if isinstance(node, ast.ClassDef)}


def parameters(call):
    return tuple(inspect.signature(call).parameters)


class Definitions(unittest.TestCase):
    def test_errors_are_defined_in_their_file(self):
        self.assertEqual(sorted(defined_classes("errors")), sorted(NAMES + ["OnlyError"]))
        for name in NAMES:
            self.assertEqual(getattr(errors, name).__module__, "onlytell.errors")

    def test_classes_and_methods_are_defined_in_their_files(self):
        for module, classes in CLASSES.items():
            for name, (_, methods, _) in classes.items():
                body = defined_classes(module)[name].body
                here = [node.name for node in body if isinstance(node, ast.FunctionDef)]
                for method in ("__init__", *methods, *SIGNS[name]):
                    self.assertIn(method, here)

    def test_parameters(self):
        for module, classes in CLASSES.items():
            for name, (own, methods, _) in classes.items():
                made = getattr(MODULES[module], name)
                self.assertEqual(parameters(made), own)
                for method, names in methods.items():
                    self.assertEqual(parameters(getattr(made, method)), ("self",) + names)

    def test_attributes_are_set_when_an_object_is_created(self):
        for classes in CLASSES.values():
            for name, (_, _, attributes) in classes.items():
                for attribute in attributes:
                    self.assertTrue(hasattr(OBJECTS[name], attribute))


class Imports(unittest.TestCase):
    def test_each_file_has_its_place(self):
        files = sorted(path.stem for path in FOLDER.glob("*.py"))
        self.assertEqual(files, sorted(SEQUENCE + ("__init__",)))

    def test_each_file_needs_only_files_ahead_of_it(self):
        for place, name in enumerate(SEQUENCE):
            for node in ast.walk(tree_of(name)):
                self.assertNotIsInstance(node, ast.Import)
                if isinstance(node, ast.ImportFrom):
                    self.assertIn(node.module, [f"onlytell.{elder}" for elder in SEQUENCE[:place]])

    def test_the_package_itself_binds_no_names(self):
        self.assertEqual([node for node in tree_of("__init__").body if not isinstance(node, ast.Expr)], [])


if __name__ == "__main__":
    unittest.main()
