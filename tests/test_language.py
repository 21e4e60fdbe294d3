"""Rules of the language that a look at the text decides: files, sizes, signs, and words that are not used."""

import ast
import builtins
import pathlib
import re
import unittest

FOLDER = pathlib.Path(__file__).resolve().parent.parent / "onlytell"

USED_BUILTINS = (
    "len range enumerate zip min max sum abs sorted reversed int str bool bytes list tuple dict set frozenset map "
    "isinstance ord repr any all divmod pow getattr hasattr setattr iter next type object float super property "
    "staticmethod classmethod Exception ValueError TypeError KeyError IndexError LookupError ZeroDivisionError "
    "ArithmeticError OverflowError RuntimeError NotImplementedError AttributeError StopIteration NotImplemented"
).split()
ARITHMETIC = "add sub mul floordiv mod pow and or xor lshift rshift".split()
OPERATORS = (
    "init eq repr str len enter exit call iter lt le gt ge ne neg pos invert abs bool contains getitem setitem"
).split() + [side + word for side in ("", "r", "i") for word in ARITHMETIC if side + word != "rpow"]
DUNDERS = [f"__{word}__" for word in OPERATORS]
BARRED = (ast.AsyncFunctionDef, ast.Import, ast.Div)
# Doctest binds `_` among the builtins; the language lets it be assigned, but not read.
BUILTINS = [name for name in vars(builtins) if name != "_"]
UNUSED_NAMES = (
    "register mro elements open input law version_info with_traceback add_note attrgetter breakpoint builtins compile "
    "copyright credits delattr dir eval exec exit gc globals help id importlib license locals methodcaller os quit super "
    "vars sys"
).split()
UNUSED_WORDS = (
    "type typing typing_extensions enum Enum IntEnum StrEnum Flag IntFlag Generic Protocol ABC ABCMeta namedtuple "
    "NamedTuple TypedDict TYPE_CHECKING abstractmethod"
).split()
# What strings, lists and dicts have as a method is no name of an attribute.
UNUSED_ATTRIBUTES = (
    "items keys values pop update append clear extend insert remove reverse setdefault sort args encode decode hex "
    "fromhex format format_map mro"
).split()
METHODS_OF_VALUES = (
    "append clear copy count endswith extend find get index insert isalnum isalpha isdigit islower isspace isupper items "
    "join keys ljust lower lstrip partition pop remove replace reverse rfind rjust rpartition rsplit rstrip setdefault "
    "split splitlines startswith strip update upper values zfill bit_length"
).split()


def files():
    return sorted(FOLDER.glob("*.py"))


def nodes(kind):
    """Each (file, node) of this kind."""
    for path in files():
        for node in ast.walk(ast.parse(path.read_text(encoding="utf-8"))):
            if isinstance(node, kind):
                yield path.name, node


def is_iterator(node):
    """Whether a call gives a zip, an enumerate, a range or a view."""
    if isinstance(node.func, ast.Name):
        return node.func.id in ("zip", "enumerate", "range", "reversed", "map", "iter")
    return isinstance(node.func, ast.Attribute) and node.func.attr in ("items", "keys", "values")


class Files(unittest.TestCase):
    def test_the_folder_has_nothing_but_files_of_python(self):
        others = [path.name for path in FOLDER.iterdir() if path.suffix != ".py" and path.name != "__pycache__"]
        self.assertEqual(others, [])

    def test_sizes_and_signs(self):
        for path in files():
            text = path.read_text(encoding="utf-8")
            self.assertLessEqual(len(text.split("\n")), 399, path.name)
            self.assertLessEqual(max(len(line) for line in text.split("\n")), 120, path.name)
            self.assertEqual([sign for sign in text if sign != "\n" and not " " <= sign <= "~"], [], path.name)

    def test_functions_have_at_most_40_lines(self):
        for name, node in nodes(ast.FunctionDef):
            self.assertLessEqual(node.end_lineno - node.lineno + 1, 40, (name, node.name))


class Words(unittest.TestCase):
    def test_only_some_builtins_are_read_and_none_is_bound(self):
        for name, node in nodes(ast.Name):
            if node.id in BUILTINS:
                self.assertIn(node.id, USED_BUILTINS, name)
                self.assertIsInstance(node.ctx, ast.Load, (name, node.id))
        for name, node in nodes((ast.FunctionDef, ast.ClassDef)):
            self.assertNotIn(node.name, USED_BUILTINS, name)
        for name, node in nodes(ast.arg):
            self.assertNotIn(node.arg, BUILTINS, name)

    def test_only_some_methods_have_two_underscores(self):
        for name, node in nodes(ast.FunctionDef):
            if node.name.startswith("__"):
                self.assertIn(node.name, DUNDERS, name)

    def test_a_class_whose_items_are_read_says_how_it_is_iterated_over(self):
        for name, node in nodes(ast.ClassDef):
            methods = [part.name for part in node.body if isinstance(part, ast.FunctionDef)]
            self.assertLessEqual("__getitem__" in methods, "__iter__" in methods, (name, node.name))

    def test_barred_statements_and_values(self):
        for name, node in nodes(BARRED):
            self.fail((name, node.lineno))
        for name, node in nodes(ast.Constant):
            self.assertNotIsInstance(node.value, (float, complex), name)

    def test_the_name_of_one_underscore_is_never_read(self):
        for name, node in nodes(ast.Name):
            if node.id == "_":
                self.assertIsInstance(node.ctx, ast.Store, (name, node.lineno))

    def test_words_and_names_that_are_not_used(self):
        for name, node in nodes((ast.Name, ast.arg, ast.Attribute, ast.FunctionDef, ast.ClassDef, ast.keyword)):
            word = getattr(node, "id", None) or getattr(node, "arg", None) or getattr(node, "name", None)
            self.assertNotIn(word, UNUSED_NAMES + UNUSED_WORDS, name)
        for name, node in nodes(ast.Constant):
            if isinstance(node.value, str):
                self.assertNotIn("%", node.value, name)
                self.assertEqual([word for word in UNUSED_WORDS if word in re.findall("[A-Za-z_]+", node.value)], [],
                                 name)

    def test_names_of_attributes(self):
        for name, node in nodes(ast.Attribute):
            if isinstance(node.ctx, ast.Store):
                self.assertNotIn(node.attr, UNUSED_ATTRIBUTES, (name, node.lineno))

    def test_methods_of_values_are_known_or_own(self):
        own = [node.name for _, node in nodes(ast.FunctionDef)]
        for name, node in nodes(ast.Call):
            if isinstance(node.func, ast.Attribute):
                self.assertIn(node.func.attr, METHODS_OF_VALUES + own, (name, node.lineno))

    def test_attributes_that_are_read_are_assigned(self):
        assigned = [node.attr for _, node in nodes(ast.Attribute) if isinstance(node.ctx, ast.Store)]
        own = [node.name for _, node in nodes(ast.FunctionDef)] + METHODS_OF_VALUES
        for name, node in nodes(ast.Attribute):
            self.assertIn(node.attr, assigned + own, (name, node.lineno))

    def test_no_name_in_a_function_is_that_of_a_class_or_an_import(self):
        for path in files():
            tree = ast.parse(path.read_text(encoding="utf-8"))
            taken = [node.name for node in ast.walk(tree) if isinstance(node, ast.ClassDef)]
            taken += [part.name for node in ast.walk(tree) if isinstance(node, ast.ImportFrom) for part in node.names]
            for node in ast.walk(tree):
                if isinstance(node, ast.arg) or isinstance(node, ast.Name) and isinstance(node.ctx, ast.Store):
                    self.assertNotIn(getattr(node, "arg", None) or getattr(node, "id", None), taken, path.name)

    def test_reversed_and_sort_are_not_called(self):
        for name, node in nodes(ast.Call):
            if isinstance(node.func, ast.Name):
                self.assertNotEqual(node.func.id, "reversed", (name, node.lineno))

    def test_zip_and_its_kind_are_iterated_on_the_spot(self):
        for path in files():
            taken = set()
            for node in ast.walk(ast.parse(path.read_text(encoding="utf-8"))):
                if isinstance(node, (ast.For, ast.comprehension)):
                    taken.add(id(node.iter))
                if isinstance(node, ast.Call) and isinstance(node.func, ast.Name) and node.args:
                    if node.func.id in ("list", "tuple", "dict", "sorted", "sum", "enumerate", "zip"):
                        taken.add(id(node.args[0]))
                if isinstance(node, ast.Call) and is_iterator(node):
                    self.assertIn(id(node), taken, (path.name, node.lineno))

    def test_sets_stand_in_a_len_alone(self):
        for path in files():
            nodes_here = list(ast.walk(ast.parse(path.read_text(encoding="utf-8"))))
            measured = [id(node.args[0]) for node in nodes_here if isinstance(node, ast.Call)
                        and isinstance(node.func, ast.Name) and node.func.id == "len"]
            for node in nodes_here:
                self.assertNotIsInstance(node, (ast.Set, ast.SetComp), path.name)
                if isinstance(node, ast.Call) and isinstance(node.func, ast.Name) and node.func.id == "set":
                    self.assertIn(id(node), measured, (path.name, node.lineno))

    def test_what_leaves_a_block_only_assigns_attributes(self):
        for name, node in nodes(ast.FunctionDef):
            if node.name == "__exit__":
                self.assertEqual([part.arg for part in node.args.args], ["self", "kind", "value", "trace"])
                for row in node.body:
                    self.assertIsInstance(row, ast.Assign, (name, row.lineno))
                    self.assertIsInstance(row.value, ast.Attribute, (name, row.lineno))
                read = [part.id for part in ast.walk(node) if isinstance(part, ast.Name)]
                self.assertEqual([word for word in read if word in ("kind", "value", "trace")], [])

    def test_nothing_is_called_keys(self):
        for name, node in nodes((ast.Attribute, ast.FunctionDef)):
            self.assertNotEqual(getattr(node, "attr", None) or getattr(node, "name", None), "keys", (name, node.lineno))

    def test_no_name_is_a_method_and_an_attribute(self):
        methods = {part.name for _, node in nodes(ast.ClassDef) for part in node.body if isinstance(part, ast.FunctionDef)}
        for name, node in nodes(ast.Attribute):
            if isinstance(node.ctx, ast.Store):
                self.assertNotIn(node.attr, methods, (name, node.lineno))

    def test_any_and_its_kind_take_lists(self):
        for name, node in nodes(ast.Call):
            if isinstance(node.func, ast.Name) and node.func.id in ("any", "all", "sum", "min", "max", "sorted"):
                self.assertNotIsInstance(node.args[0], ast.GeneratorExp, (name, node.lineno))


if __name__ == "__main__":
    unittest.main()
