"""Point 4: the properties of a Book, its deeds, and `taught`."""

import unittest

from onlytell.books import Book
from onlytell.errors import BadDeeds, NoDeed
from tests.helpers import ANY_VALUES, check_equal, check_refused, lined, nested, same

TEXT = lined(
    "key b 2", "may a 2", "group two b a", "group other a b",
    "deed put 2", "  set b it",
    "deed sly 1 blind", "  drop a",
    "deed low 3 when b", "  say it",
    "deed blind 1 blind when a", "  say a",
)


class Properties(unittest.TestCase):
    def test_all_of_them(self):
        book = Book(TEXT)
        self.assertEqual(book.text, TEXT)
        self.assertTrue(same(book.key_rows, (("b", 2, False), ("a", 2, True))))
        self.assertTrue(same(book.groups, (("two", ("b", "a")), ("other", ("a", "b")))))
        self.assertTrue(same(book.deeds, (
            ("put", 2, False, ""), ("sly", 1, True, ""), ("low", 3, False, "b"), ("blind", 1, True, "a"),
        )))
        self.assertTrue(same(book.stores, ((0, -1), (0, 0), (0, 1), (1, -1), (1, 0), (1, 1))))
        self.assertTrue(same(book.letters, (
            ("put", 0), ("put", 1), ("sly", 0), ("low", 0), ("low", 1), ("low", 2), ("blind", 0),
        )))

    def test_a_book_without_groups(self):
        book = Book("key a 3\ndeed put 1\n  end")
        self.assertTrue(same([book.groups, book.stores, book.letters], [(), ((0,), (1,), (2,)), (("put", 0),)]))

    def test_stores_are_ascending_without_duplicates(self):
        for keys, many in (("key a 2\nmay b 3\nkey c 3", 24), ("may b 2\nmay a 2\nmay c 3", 36), ("may z 3", 4),
                           ("key a 3\nkey b 3\nkey c 3\nkey d 2", 54)):
            stores = Book(keys + "\ndeed put 1\n  end").stores
            self.assertEqual(list(stores), sorted(set(stores)))
            self.assertEqual(len(stores), many)

    def test_the_argument_by_its_name(self):
        self.assertEqual(Book(text=TEXT).text, TEXT)


class Deeds(unittest.TestCase):
    def test_a_deed_by_its_name(self):
        book = Book(TEXT)
        found = [(book[name].name, book[name].size, book[name].is_blind) for name in ("put", "sly", "low", "blind")]
        self.assertTrue(same(found, [("put", 2, False), ("sly", 1, True), ("low", 3, False), ("blind", 1, True)]))
        for name in ("put", "sly", "low", "blind"):
            self.assertIs(book[name].book, book)

    def test_what_is_no_deed(self):
        book = Book(TEXT)
        wrong = [value for value in ANY_VALUES if value != "put"]
        wrong += ["a", "b", "two", "Put", "pu", "putt", ("put",), ["put"], {"put": 1}, ("put", 0), book.deeds[0],
                  b"put",
                  slice(0, 1), nested(30)]
        for value in wrong:
            with self.subTest(value=value):
                check_refused(self, NoDeed, value, lambda at: book[at], value)
                self.assertIs(value in book, False)

    def test_in(self):
        book = Book(TEXT)
        for name in ("put", "sly", "low", "blind"):
            self.assertIs(name in book, True)

    def test_len(self):
        self.assertEqual([len(Book(TEXT)), len(Book("key a 2\ndeed put 1\n  end"))], [4, 1])

    def test_a_loop_over_a_book_ends_in_a_type_error(self):
        with self.assertRaises(TypeError):
            list(Book(TEXT))


class Equality(unittest.TestCase):
    def test_books_are_equal_if_their_texts_are(self):
        check_equal(self, Book(TEXT), Book(TEXT), True)
        for other in (TEXT.replace("put", "push"), TEXT + "\n  end", TEXT.replace("deed low 3", "deed low 2")):
            check_equal(self, Book(TEXT), Book(other), False)

    def test_books_are_equal_to_nothing_else(self):
        book = Book(TEXT)
        for value in ANY_VALUES + (TEXT, book["put"], book.deeds, object(), nested(30)):
            check_equal(self, book, value, False)

    def test_deeds_are_equal_if_their_books_and_their_names_are(self):
        one, other = Book(TEXT), Book(TEXT)
        longer = Book(TEXT + "\n  end")
        for name in ("put", "sly", "low", "blind"):
            check_equal(self, one[name], one[name], True)
            check_equal(self, one[name], other[name], True)
            check_equal(self, one[name], longer[name], False)
            check_equal(self, one[name], one["put"], name == "put")

    def test_deeds_are_equal_to_nothing_else(self):
        deed = Book(TEXT)["put"]
        for value in ANY_VALUES + ("put", ("put", 0), deed.book, object(), nested(30)):
            check_equal(self, deed, value, False)


class Taught(unittest.TestCase):
    def test_the_text_without_blind_in_their_lines(self):
        book = Book(TEXT)
        sly, blind = "deed sly 1 blind\n", "deed blind 1 blind when a"
        for deeds, text in (
            ((), TEXT),
            (("sly",), TEXT.replace(sly, "deed sly 1\n")),
            (("blind",), TEXT.replace(blind, "deed blind 1 when a")),
            (("blind", "sly"), TEXT.replace(sly, "deed sly 1\n").replace(blind, "deed blind 1 when a")),
        ):
            taught = book.taught(deeds)
            self.assertEqual(taught.text, text)
            self.assertEqual(taught, Book(text))
            blind_ones = [row[0] for row in taught.deeds if row[2]]
            self.assertEqual(blind_ones, [name for name in ("sly", "blind") if name not in deeds])
            self.assertEqual([taught[name].is_blind for name in ("sly", "blind")],
                             ["sly" not in deeds, "blind" not in deeds])
        self.assertEqual(book.text, TEXT)
        self.assertTrue(book["sly"].is_blind)

    def test_nothing_else_that_is_called_blind_is_left_out(self):
        text = lined("key blind 2", "key a 2", "group blind a blind", "deed put 1 blind when blind", "  say blind",
                     "  each blind", "    try blind blind", "deed blind 2 blind", "  refuse blind")
        self.assertEqual(Book(text).taught(("put",)).text, text.replace("put 1 blind when", "put 1 when"))
        self.assertEqual(Book(text).taught(("blind",)).text, text.replace("blind 2 blind", "blind 2"))

    def test_a_deed_with_an_elder_one_of_its_line(self):
        text = lined("key a 2", "deed a 1 blind", "  end", "deed aa 1 blind", "  end")
        self.assertEqual(Book(text).taught(("a",)).text, text.replace("deed a 1 blind", "deed a 1"))

    def test_the_argument_by_its_name(self):
        self.assertEqual(Book(TEXT).taught(deeds=("sly",)), Book(TEXT).taught(("sly",)))

    def test_values_that_are_no_blind_deeds(self):
        book = Book(TEXT)
        wrong = [value for value in ANY_VALUES if not same(value, ())]
        wrong += [
            ("put",), ("low",), ("more",), ("blind", "put"), ("put", "sly"), ("sly", "blind"), ("sly", "sly"),
            ("blind", "sly", "sly"), ["sly"], ["blind", "sly"], "sly", {"sly": True}, (("sly",),), (["sly"],), (None,),
            (True,), (0,), ("sly", None), ("sly", 0), (0, "sly"), ("",), ("Sly",), book.deeds, nested(30), ("a",),
            ("sly", ["sly"]), ({"sly": 1},),
        ]
        for value in wrong:
            with self.subTest(value=value):
                check_refused(self, BadDeeds, value, book.taught, value)
        check_refused(self, BadDeeds, ("sly",), book.taught(("sly",)).taught, ("sly",))


if __name__ == "__main__":
    unittest.main()
