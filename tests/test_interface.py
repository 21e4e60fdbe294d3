"""The interface: names and parameters as written, each one defined in the file under which it is listed."""

import ast
import inspect
import pathlib
import unittest
from importlib import import_module

from onlytell import errors
from onlytell.books import Book
from onlytell.desk import Desk
from onlytell.shop import Shop
from onlytell.stores import Store
from onlytell.tellings import Telling
from tests.helpers import three_keys
from tests.test_errors import NAMES

FOLDER = pathlib.Path(__file__).resolve().parent.parent / "onlytell"

# The files in a sequence in which they can be written: those of the interface, and those that they need besides.
SEQUENCE = (
    "errors", "forms", "tellings", "stores", "lines", "scripts", "naming", "acting", "books", "checking", "machines",
    "running", "showing", "searching", "beside", "harm", "orders", "choosing", "looks", "spoiling", "stamps",
    "sequences", "apart", "wishes", "turns", "hands", "shop", "desk",
)
LISTED = (
    "errors", "tellings", "stores", "books", "machines", "running", "showing", "beside", "harm", "choosing", "looks",
    "spoiling", "stamps", "sequences", "apart", "wishes", "hands", "shop", "desk",
)

# For each class its parameters, its methods with theirs, and the attributes that each object has.
CLASSES = {
    "tellings": {"Telling": (("book", "effects"), {"back": ("worths",)}, ("book", "effects"))},
    "stores": {"Store": (("book", "worths"), {"drop": ("key",)}, ("book", "worths"))},
    "books": {
        "Book": (("text",), {"taught": ("deeds",)}, ("text", "key_rows", "groups", "deeds", "stores", "letters")),
        # Books alone make deeds, so it is free what they are made of.
        "Deed": (None, {"__call__": ("store", "it")}, ("name", "book", "size", "is_blind")),
    },
    "shop": {
        "Shop": (
            ("book", "worths", "*", "memory"),
            {"do": ("deed", "it"), "switch": ("on",), "preview": ("row",), "make": ("preview",), "holds": ("preview",),
             "showing": (), "tried": ("look",), "copy": ()},
            ("book", "memory", "worths", "left", "is_showing", "done"),
        ),
        # Shops alone make previews.
        "Preview": (None, {}, ("book", "row", "tellings", "looked")),
    },
    "desk": {"Desk": (("text", "worths", "*", "memory"), {"say": ("line",)}, ("shop",))},
}
SIGNS = {
    "Telling": ("__getitem__", "__contains__", "__len__", "__add__", "__eq__"),
    "Store": ("__getitem__", "__setitem__", "__contains__", "__len__", "__eq__", "__ior__"),
    "Book": ("__getitem__", "__contains__", "__len__", "__eq__"),
    "Deed": ("__call__", "__eq__"),
    "Shop": ("__eq__",),
    "Preview": (),
    "Desk": (),
}
OBJECTS = {
    "Telling": Telling(three_keys(), ()),
    "Store": Store(three_keys(), (0, 0, 0)),
    "Book": three_keys(),
    "Deed": three_keys()["put"],
    "Shop": Shop(three_keys(), (0, 0, 0)),
    "Preview": Shop(three_keys(), (0, 0, 0)).preview(()),
    "Desk": Desk(three_keys().text, (0, 0, 0)),
}

# For each function its parameters; those behind the star are passed by name alone.
FUNCTIONS = {
    "machines": {"stepped": "book machine state letter"},
    "running": {"ran": "book store row"},
    "showing": {"shown": "book store memory row"},
    "beside": {
        "beside": "book one newer other", "shows_beside": "book one newer other value", "is_true": "book memory",
        "parted": "book memory",
    },
    "harm": {"harm": "book memory", "shows_harm": "book memory value"},
    "choosing": {"cheapest": "book offers * wish", "shows_cheapest": "book offers value * wish"},
    "looks": {
        "looks": "book machine state letter", "first_unlike": "book memory store row", "enough": "book",
    },
    "spoiling": {
        "spoils": "book store row letters", "shows_spoils": "book store row letters value",
        "bars": "book store row letters prices", "shows_bars": "book store row letters prices value",
    },
    "stamps": {
        "hangs": "book row", "shows_hangs": "book row value", "reads": "book store row",
        "stamps": "book store row prices", "shows_stamps": "book store row prices value",
    },
    "sequences": {"sequences": "book store rows"},
    "apart": {
        "apart": "book machine store other", "shows_apart": "book machine store other value",
        "classes": "book machine",
    },
    "wishes": {
        "leads": "book machine store wish prices", "shows_leads": "book machine store wish prices value",
        "agree": "book memory keys", "shows_agree": "book memory keys value",
    },
    "hands": {
        "played": "book store hands steps", "in_turn": "book hands", "shows_in_turn": "book hands value",
        "checks": "book rows offers", "shows_checks": "book rows offers value",
    },
}


def tree_of(name):
    return ast.parse((FOLDER / f"{name}.py").read_text(encoding="utf-8"))


def defined(kind, name):
    """The functions or classes at the module level of a file."""
    return {node.name: node for node in tree_of(name).body if isinstance(node, kind)}


def parameters(call):
    """The names of the parameters, with a star ahead of those that are passed by name."""
    names = []
    for parameter in inspect.signature(call).parameters.values():
        if parameter.kind == parameter.KEYWORD_ONLY and "*" not in names:
            names.append("*")
        names.append(parameter.name)
    return tuple(names)


def listed_classes():
    for module, classes in CLASSES.items():
        for name, parts in classes.items():
            yield (module, name) + parts


class Definitions(unittest.TestCase):
    def test_errors_are_defined_in_their_file(self):
        self.assertEqual(sorted(defined(ast.ClassDef, "errors")), sorted(NAMES + ["OnlyError"]))
        for name in NAMES:
            self.assertEqual(getattr(errors, name).__module__, "onlytell.errors")

    def test_classes_and_methods_are_defined_in_their_files(self):
        for module, name, _, methods, _ in listed_classes():
            body = defined(ast.ClassDef, module)[name].body
            here = [node.name for node in body if isinstance(node, ast.FunctionDef)]
            for method in ("__init__", *methods, *SIGNS[name]):
                self.assertIn(method, here)

    def test_parameters_of_classes_and_methods(self):
        for module, name, own, methods, _ in listed_classes():
            made = getattr(import_module(f"onlytell.{module}"), name)
            self.assertEqual(made.__module__, f"onlytell.{module}")
            if own is not None:
                self.assertEqual(parameters(made), own)
            for method, names in methods.items():
                self.assertEqual(parameters(getattr(made, method)), ("self",) + names)

    def test_attributes_are_set_when_an_object_is_created(self):
        for _, name, _, _, attributes in listed_classes():
            for attribute in attributes:
                self.assertTrue(hasattr(OBJECTS[name], attribute))

    def test_functions_are_defined_in_their_files_with_their_parameters(self):
        for module, functions in FUNCTIONS.items():
            for name, names in functions.items():
                self.assertIn(name, defined(ast.FunctionDef, module))
                call = getattr(import_module(f"onlytell.{module}"), name)
                self.assertEqual(call.__module__, f"onlytell.{module}")
                self.assertEqual(parameters(call), tuple(names.split()))

    def test_what_may_be_left_out(self):
        for function in ("cheapest", "shows_cheapest"):
            call = getattr(import_module("onlytell.choosing"), function)
            self.assertEqual(inspect.signature(call).parameters["wish"].default, "both")
        self.assertEqual(inspect.signature(three_keys()["put"]).parameters["it"].default, 0)
        self.assertEqual(inspect.signature(Shop).parameters["memory"].default, ())
        self.assertEqual(inspect.signature(Desk).parameters["memory"].default, ())
        self.assertEqual(inspect.signature(Shop.do).parameters["it"].default, 0)

    def test_books_alone_make_deeds(self):
        book = Book("key a 2\ndeed put 1\n  end")
        self.assertEqual(type(book["put"]).__module__, "onlytell.books")


class Imports(unittest.TestCase):
    def test_each_file_has_its_place(self):
        files = sorted(path.stem for path in FOLDER.glob("*.py"))
        self.assertEqual(files, sorted(SEQUENCE + ("__init__",)))

    def test_each_file_needs_only_files_ahead_of_it(self):
        for place, name in enumerate(SEQUENCE):
            for node in ast.walk(tree_of(name)):
                self.assertNotIsInstance(node, ast.Import)
                if isinstance(node, ast.ImportFrom):
                    self.assertIn(node.module, [f"onlytell.{elder}" for elder in SEQUENCE[:place]])

    def test_the_files_of_the_interface_stand_in_its_sequence(self):
        self.assertEqual(tuple(name for name in SEQUENCE if name in LISTED), LISTED)

    def test_the_package_itself_binds_no_names(self):
        self.assertEqual([node for node in tree_of("__init__").body if not isinstance(node, ast.Expr)], [])


if __name__ == "__main__":
    unittest.main()
