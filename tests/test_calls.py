"""Points 2, 3, 5 and 18: runs of rows, calls of deeds, and what becomes of tellings that are put into stores."""

import unittest

from onlytell.books import Book
from onlytell.errors import BadInput, BadRow, BadStore, OtherStore
from onlytell.running import ran
from onlytell.stores import Store
from onlytell.tellings import Telling
from tests.helpers import ANY_VALUES, OTHER_KEY_ROWS, book_of, check_refused, lined, nested, same, three_keys
from tests.samples import PAIR, SAMPLES, WAKING, WRONG_ROWS, WRONG_STORES

COUNTER = lined("key a 3", "may m 2", "deed grow 3", "  add a it", "  say a", "deed off 1", "  drop m", "deed on 2",
                "  set m it")


class Rows(unittest.TestCase):
    def test_the_telling_of_each_letter_and_the_store_behind(self):
        row = (("grow", 2), ("off", 0), ("off", 0), ("grow", 2), ("on", 1), ("off", 0))
        tellings, store = ran(Book(COUNTER), (0, 0), row)
        self.assertTrue(same(tellings, (
            (("add", "a", 2), ("say", 2)), (("drop", "m"),), (("refused", ("off",), "lacks"),),
            (("add", "a", 2), ("say", 1)), (("set", "m", 1),), (("drop", "m"),),
        )))
        self.assertTrue(same(store, (1, -1)))

    def test_the_empty_row(self):
        for store in Book(COUNTER).stores:
            self.assertTrue(same(ran(Book(COUNTER), store, ()), ((), store)))

    def test_a_long_row(self):
        tellings, store = ran(Book(COUNTER), (0, 0), (("grow", 1),) * 100)
        self.assertEqual((len(tellings), tellings[-1], store), (100, (("add", "a", 1), ("say", 1)), (1, 0)))

    def test_a_row_in_one_call_and_cut_into_two(self):
        for book in SAMPLES:
            row = (book.letters * 3)[::-2]
            for store in book.stores:
                whole = ran(book, store, row)
                for place in range(len(row) + 1):
                    tellings, between = ran(book, store, row[:place])
                    further, behind = ran(book, between, row[place:])
                    self.assertEqual((tellings + further, behind), whole)

    def test_equal_calls_return_equal_results_and_leave_the_arguments(self):
        for text in (COUNTER, WAKING, PAIR):
            book, other = Book(text), Book(text)
            row = book.letters + book.letters
            for store in book.stores:
                self.assertTrue(same(ran(book, store, row), ran(other, store, row)))
                self.assertTrue(same(ran(book, store, row), ran(store=store, row=row, book=book)))
            self.assertEqual((book.text, book.stores, book.letters, row[:len(row) // 2]),
                             (other.text, other.stores, other.letters, other.letters))

    def test_bad_stores(self):
        for value in WRONG_STORES:
            with self.subTest(value=value):
                check_refused(self, BadStore, value, ran, three_keys(), value, ())

    def test_bad_rows(self):
        for value, number in WRONG_ROWS:
            with self.subTest(value=value):
                check_refused(self, BadRow, number, ran, three_keys(), (0, 0, 0), value)

    def test_bad_store_ahead_of_bad_row(self):
        for value, _ in WRONG_ROWS:
            check_refused(self, BadStore, (0, 0), ran, three_keys(), (0, 0), value)


class Calls(unittest.TestCase):
    def test_a_call_changes_the_store_and_returns_the_telling(self):
        book = Book(COUNTER)
        store = Store(book, (1, 1))
        self.assertTrue(same(book["grow"](store, 1), (("add", "a", 1), ("say", 2))))
        self.assertTrue(same(store.worths, (2, 1)))
        self.assertTrue(same(book["off"](store), (("drop", "m"),)))
        self.assertTrue(same(store.worths, (2, -1)))

    def test_a_refused_deed_changes_nothing(self):
        book = Book(COUNTER)
        store = Store(book, (1, -1))
        self.assertTrue(same(book["off"](store), (("refused", ("off",), "lacks"),)))
        self.assertTrue(same(store.worths, (1, -1)))

    def test_the_input_is_zero_if_none_is_given(self):
        book = Book(COUNTER)
        store = Store(book, (1, -1))
        self.assertEqual(book["grow"](store), (("add", "a", 0), ("say", 1)))
        self.assertEqual(book["on"](store), (("set", "m", 0),))

    def test_by_position_and_by_the_names(self):
        book = Book(COUNTER)
        for call in (lambda deed, store: deed(store, 2), lambda deed, store: deed(store, it=2),
                     lambda deed, store: deed(store=store, it=2), lambda deed, store: deed(it=2, store=store)):
            store = Store(book, (0, 0))
            self.assertEqual(call(book["grow"], store), (("add", "a", 2), ("say", 2)))
            self.assertEqual(store.worths, (2, 0))

    def test_beside_ran(self):
        for book in SAMPLES:
            row = book.letters + book.letters[::-1]
            for worths in book.stores:
                store = Store(book, worths)
                tellings = tuple(book[name](store, it) for name, it in row)
                self.assertTrue(same((tellings, store.worths), ran(book, worths, row)))

    def test_a_store_of_another_book_with_the_same_keys(self):
        book = Book(COUNTER)
        other = Book(lined("key a 3", "may m 2", "deed other 1", "  set a 0"))
        store = Store(other, (1, 0))
        self.assertEqual(book["grow"](store, 1), (("add", "a", 1), ("say", 2)))
        self.assertEqual((store.worths, store.book), ((2, 0), other))

    def test_what_is_no_store_of_the_same_keys(self):
        deed = three_keys()["put"]
        others = [Store(book_of(rows, (("put", 2, False, ""),)), tuple(0 for _ in rows)) for rows in OTHER_KEY_ROWS]
        for value in (*ANY_VALUES, (0, 0, 0), deed, deed.book, Telling(deed.book, ()), nested(30)):
            for it in (0, 1, 9, None):
                check_refused(self, OtherStore, value, deed, value, it)
        for store in others:
            worths = store.worths
            with self.assertRaises(OtherStore) as caught:
                deed(store, True)
            self.assertIs(caught.exception.value, store)
            self.assertEqual(store.worths, worths)

    def test_what_is_no_input(self):
        book = Book(COUNTER)
        for name, size in (("grow", 3), ("off", 1), ("on", 2)):
            wrong = [value for value in ANY_VALUES if not (type(value) is int and 0 <= value < size)]
            for value in wrong + [size, -1, 10 ** 30, True, False, "0", (0,), [0], nested(30)]:
                with self.subTest(name=name, value=value):
                    store = Store(book, (1, 1))
                    check_refused(self, BadInput, value, lambda it: book[name](store, it), value)
                    self.assertEqual(store.worths, (1, 1))


class DoneLater(unittest.TestCase):
    """Guarantee (e)."""

    def put(self, book, worths, effects):
        store = Store(book, worths)
        store |= Telling(book, effects)
        return store.worths

    def test_a_telling_leads_where_the_run_leads_from_stores_that_tell_the_same(self):
        many = 0
        for book in SAMPLES:
            for letter in book.letters:
                for worths in book.stores:
                    (telling,), _ = ran(book, worths, (letter,))
                    for other in book.stores:
                        (other_telling,), behind = ran(book, other, (letter,))
                        if other_telling == telling:
                            self.assertEqual(self.put(book, other, telling), behind)
                            many += 1
        self.assertGreater(many, 500)

    def test_tellings_of_a_row_one_behind_the_other(self):
        for book in SAMPLES:
            row = book.letters + book.letters[1:]
            for worths in book.stores:
                tellings, behind = ran(book, worths, row)
                whole = Telling(book, ())
                for telling in tellings:
                    whole = whole + Telling(book, telling)
                store = Store(book, worths)
                store |= whole
                self.assertEqual(store.worths, behind)
                store |= whole.back(worths)
                self.assertEqual(store.worths, worths)

    def test_back_has_one_effect_for_each_key_that_has_another_worth(self):
        for book in SAMPLES:
            for letter in book.letters:
                for worths in book.stores:
                    (telling,), behind = ran(book, worths, (letter,))
                    back = Telling(book, telling).back(worths)
                    changed = [row[0] for row, x, y in zip(book.key_rows, worths, behind) if x != y]
                    self.assertEqual([effect[1] for effect in back.effects], changed)

    def test_what_is_put_wakes_no_deed(self):
        book = Book(lined("key a 2", "key b 2", "deed put 1", "  set a 1", "deed one 1 when a", "  set b 1"))
        self.assertEqual(ran(book, (0, 0), (("put", 0),)), (((("set", "a", 1), ("set", "b", 1)),), (1, 1)))
        self.assertEqual(self.put(book, (0, 0), (("set", "a", 1),)), (1, 0))


if __name__ == "__main__":
    unittest.main()
