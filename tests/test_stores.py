"""Points 4 and 18: the class Store, and tellings that are put into it."""

import unittest
from itertools import product

from onlytell.errors import BadStore, BadWorth, Gone, Lasting, NoKey, OtherStore, Stuck
from onlytell.stores import Store
from onlytell.tellings import Telling
from tests.helpers import (
    ANY_VALUES, DEEDS, KEY_ROWS, OTHER_KEY_ROWS, book_of, check_equal, check_refused, nested, same, three_keys,
)

NO_STORES = ANY_VALUES + (
    (0, 0), (0, 0, 0, 0), (0,), (2, 0, 0), (0, 3, 0), (0, 0, 3), (-1, 0, 0), (0, 0, -1), (0, -2, 0), (-2, 0, 0),
    (True, 0, 0), (0, True, 0), (0, 0, False), (0, None, 0), (0, "0", 0), (0, "", 0), (0, (0,), 0), (0, [-1], 0),
    [0, 0, 0], "000", ((0, 0, 0),), ((0, 0, 0), (0, 0, 0), (0, 0, 0)), {0: 0, 1: 0, 2: 0}, nested(30),
)

NO_KEYS = ANY_VALUES[:9] + ANY_VALUES[10:] + (
    "c", "A", "M", "am", "a ", "here", "it", "look", b"a", ("a",), ["a"], {"a": 0}, KEY_ROWS[0], ("a", "b"),
    nested(30),
)


class Creation(unittest.TestCase):
    def test_each_store_of_a_book(self):
        book = three_keys()
        self.assertEqual(len(book.stores), 24)
        for worths in book.stores:
            store = Store(book, worths)
            self.assertIs(store.book, book)
            self.assertTrue(same(store.worths, worths))

    def test_values_that_tell_no_store(self):
        for value in NO_STORES:
            with self.subTest(value=value):
                check_refused(self, BadStore, value, Store, three_keys(), value)

    def test_stores_go_by_the_size_of_each_key(self):
        book = book_of((("a", 3, True),), DEEDS)
        right = [worth for worth in range(-5, 9) if self.is_taken(book, worth)]
        self.assertEqual(right, [-1, 0, 1, 2])

    def is_taken(self, book, worth):
        try:
            Store(book, (worth,))
        except BadStore:
            return False
        return True

    def test_arguments_by_their_names(self):
        self.assertEqual(Store(worths=(1, 2, 0), book=three_keys()).worths, (1, 2, 0))


class Reading(unittest.TestCase):
    def test_worths_by_their_keys(self):
        for worths in three_keys().stores:
            store = Store(three_keys(), worths)
            self.assertTrue(same([store["a"], store["b"]], [worths[0], worths[2]]))
            if worths[1] == -1:
                check_refused(self, Gone, "m", lambda at: store[at], "m")
            else:
                self.assertTrue(same(store["m"], worths[1]))
            self.assertEqual(store.worths, worths)

    def test_what_is_no_key(self):
        store = Store(three_keys(), (1, -1, 2))
        for value in NO_KEYS:
            with self.subTest(value=value):
                check_refused(self, NoKey, value, lambda at: store[at], value)
                self.assertIs(value in store, False)

    def test_in_is_whether_the_key_is_there(self):
        store = Store(three_keys(), (0, -1, 2))
        self.assertEqual([key in store for key in ("a", "m", "b", "c")], [True, False, True, False])
        store = Store(three_keys(), (1, 0, 0))
        self.assertEqual([key in store for key in ("a", "m", "b", "c")], [True, True, True, False])

    def test_len_is_the_number_of_keys_that_are_there(self):
        many = book_of((("a", 2, True), ("b", 2, True), ("c", 2, False), ("d", 2, True)), DEEDS)
        for worths in many.stores:
            self.assertEqual(len(Store(many, worths)), len([worth for worth in worths if worth != -1]))

    def test_a_loop_over_a_store_ends_in_a_type_error(self):
        with self.assertRaises(TypeError):
            list(Store(three_keys(), (0, 0, 0)))


class Setting(unittest.TestCase):
    def test_each_worth_of_each_key(self):
        book = three_keys()
        for worths in book.stores:
            for place, (key, size, may) in enumerate(KEY_ROWS):
                for worth in range(size):
                    store = Store(book, worths)
                    store[key] = worth
                    self.assertTrue(same(store.worths, worths[:place] + (worth,) + worths[place + 1:]))
                    self.assertTrue(same(store[key], worth))
                    self.assertIs(key in store, True)

    def test_what_is_no_key(self):
        for value in NO_KEYS:
            for worth in (0, 1, -1, None):
                store = Store(three_keys(), (1, -1, 2))
                check_refused(self, NoKey, value, store.__setitem__, value, worth)
                self.assertTrue(same(store.worths, (1, -1, 2)))

    def test_what_is_no_worth(self):
        others = [value for value in ANY_VALUES if not (type(value) is int and value in (0, 1))]
        for worth in others + [-1, -2, 3, 10 ** 30, True, False, "0", "a", (0,), [1], nested(30)]:
            for key in ("a", "m", "b"):
                with self.subTest(key=key, worth=worth):
                    store = Store(three_keys(), (1, -1, 2))
                    check_refused(self, BadWorth, worth, store.__setitem__, key, worth)
                    self.assertTrue(same(store.worths, (1, -1, 2)))

    def test_worths_go_by_the_size_of_their_own_key(self):
        store = Store(three_keys(), (1, -1, 2))
        check_refused(self, BadWorth, 2, store.__setitem__, "a", 2)
        store["m"] = 2
        store["b"] = 2
        self.assertEqual(store.worths, (1, 2, 2))

    def test_one_store_leaves_another_one_alone(self):
        book, worths = three_keys(), (1, 1, 1)
        one, other = Store(book, worths), Store(book, worths)
        one["a"] = 0
        self.assertEqual([one.worths, other.worths, worths], [(0, 1, 1), (1, 1, 1), (1, 1, 1)])


class Dropping(unittest.TestCase):
    def test_a_key_is_gone(self):
        for worth in range(3):
            store = Store(three_keys(), (1, worth, 2))
            self.assertIsNone(store.drop("m"))
            self.assertTrue(same(store.worths, (1, -1, 2)))
            self.assertIs("m" in store, False)
            self.assertEqual(len(store), 2)

    def test_a_key_that_is_gone_comes_back(self):
        store = Store(three_keys(), (1, 1, 2))
        store.drop(key="m")
        store["m"] = 0
        self.assertEqual([store.worths, store["m"], len(store)], [(1, 0, 2), 0, 3])

    def check_stays(self, error, key):
        store = Store(three_keys(), (1, -1, 2))
        check_refused(self, error, key, store.drop, key)
        self.assertTrue(same(store.worths, (1, -1, 2)))

    def test_what_is_no_key(self):
        for value in NO_KEYS:
            with self.subTest(value=value):
                self.check_stays(NoKey, value)

    def test_keys_that_cannot_be_gone(self):
        self.check_stays(Lasting, "a")
        self.check_stays(Lasting, "b")

    def test_a_key_that_is_gone_already(self):
        self.check_stays(Gone, "m")


class Equality(unittest.TestCase):
    def test_stores_of_one_book(self):
        book = three_keys()
        for one, other in product(book.stores, book.stores):
            check_equal(self, Store(book, one), Store(book, other), one == other)

    def test_books_with_equal_and_with_other_key_rows(self):
        one = Store(three_keys(), (1, 1, 1))
        check_equal(self, one, Store(three_keys(), (1, 1, 1)), True)
        check_equal(self, one, Store(book_of(KEY_ROWS, DEEDS[:1]), (1, 1, 1)), True)
        a, m, b = KEY_ROWS
        check_equal(self, Store(book_of((a, m), DEEDS), (1, 1)), Store(book_of((a, b), DEEDS), (1, 1)), False)
        for key_rows in [rows for rows in OTHER_KEY_ROWS if len(rows) == 3]:
            check_equal(self, one, Store(book_of(key_rows, DEEDS), (1, 1, 1)), False)

    def test_stores_that_became_alike(self):
        one, other = Store(three_keys(), (0, 1, 1)), Store(three_keys(), (1, 1, 1))
        one["a"] = 1
        check_equal(self, one, other, True)
        other.drop("m")
        check_equal(self, one, other, False)

    def test_equal_to_nothing_else(self):
        store = Store(three_keys(), (1, 1, 1))
        for value in ANY_VALUES + (store.worths, [1, 1, 1], store.book, Telling(store.book, ()), object()):
            check_equal(self, store, value, False)


class Putting(unittest.TestCase):
    def check_put(self, effects, worths, expected):
        store = Store(three_keys(), worths)
        kept, telling = store, Telling(three_keys(), effects)
        store |= telling
        self.assertIs(store, kept)
        self.assertTrue(same(store.worths, expected), store.worths)
        self.assertTrue(same(telling.effects, effects))

    def test_sets_adds_and_drops_are_done(self):
        self.check_put((), (1, -1, 2), (1, -1, 2))
        self.check_put((("set", "a", 1),), (0, 0, 0), (1, 0, 0))
        self.check_put((("set", "m", 2),), (0, -1, 0), (0, 2, 0))
        self.check_put((("drop", "m"),), (0, 1, 0), (0, -1, 0))
        self.check_put((("add", "b", 1),), (0, 1, 0), (0, 1, 1))

    def test_worths_grow_modulo_the_size_of_the_key(self):
        for worth, growth in product(range(3), range(3)):
            self.check_put((("add", "b", growth),), (1, -1, worth), (1, -1, (worth + growth) % 3))
            self.check_put((("add", "m", growth),), (1, worth, 0), (1, (worth + growth) % 3, 0))
        for worth, growth in product(range(2), range(2)):
            self.check_put((("add", "a", growth),), (worth, 1, 2), ((worth + growth) % 2, 1, 2))

    def test_effects_are_done_one_behind_the_other(self):
        self.check_put((("set", "m", 1), ("add", "m", 1), ("drop", "m"), ("set", "m", 0)), (0, -1, 0), (0, 0, 0))
        self.check_put((("set", "a", 1), ("set", "a", 0)), (0, 0, 0), (0, 0, 0))
        self.check_put((("add", "b", 2), ("add", "b", 2), ("set", "a", 1)), (0, 0, 0), (1, 0, 1))

    def test_other_effects_do_nothing(self):
        self.check_put((("say", 7), ("refused", ("put", "look"), "no"), ("say", 0)), (1, -1, 2), (1, -1, 2))

    def test_no_deed_is_woken(self):
        book = book_of((("a", 2, False), ("b", 2, False)), (("one", 1, False, ""), ("two", 1, False, "a")))
        store = Store(book, (0, 0))
        store |= Telling(book, (("set", "a", 1),))
        self.assertEqual(store.worths, (1, 0))

    def test_deeds_need_not_be_alike(self):
        store = Store(book_of(KEY_ROWS, (("more", 1, False, ""),)), (0, 0, 0))
        store |= Telling(three_keys(), (("refused", ("put",), "no"), ("set", "a", 1)))
        self.assertEqual(store.worths, (1, 0, 0))

    def check_refused_put(self, error, value, store, other):
        kept, worths = store, store.worths
        with self.assertRaises(error) as caught:
            store |= other
        self.assertIs(store, kept)
        self.assertTrue(same(store.worths, worths))
        if value is not None:
            self.assertIs(type(caught.exception), error)
            self.assertTrue(caught.exception.value is value or same(caught.exception.value, value))

    def test_stuck_changes_nothing(self):
        for effects, number in (
            ((("drop", "m"),), 0), ((("add", "m", 0),), 0), ((("set", "a", 0), ("add", "m", 2)), 1),
            ((("set", "a", 0), ("set", "b", 0), ("drop", "m")), 2),
            ((("set", "m", 0), ("drop", "m"), ("add", "m", 1), ("set", "m", 1)), 2),
            ((("say", 1), ("refused", ("put",), "no"), ("set", "a", 0), ("drop", "m"), ("add", "m", 1)), 3),
        ):
            with self.subTest(effects=effects):
                store = Store(three_keys(), (1, -1, 2))
                self.check_refused_put(Stuck, number, store, Telling(three_keys(), effects))

    def test_other_stores(self):
        for key_rows in OTHER_KEY_ROWS:
            book = book_of(key_rows, DEEDS)
            for effects in ((), (("set", "m", 0),), (("drop", "m"),)):
                telling = Telling(book, effects)
                self.check_refused_put(OtherStore, telling, Store(three_keys(), (1, -1, 2)), telling)

    def test_what_is_no_telling(self):
        store = Store(three_keys(), (1, -1, 2))
        for value in ANY_VALUES + ((("set", "a", 0),), store, store.book, nested(30)):
            with self.subTest(value=value):
                self.check_refused_put(TypeError, None, store, value)

    def test_back_leads_to_the_elder_worths(self):
        book = three_keys()
        effects = (("set", "m", 1), ("set", "b", 2), ("add", "b", 2), ("drop", "m"), ("add", "a", 1), ("say", 1),
                   ("set", "m", 2), ("refused", ("look",), "no"), ("add", "m", 2))
        for many in range(len(effects) + 1):
            telling = Telling(book, effects[:many])
            for worths in book.stores:
                store = Store(book, worths)
                store |= telling
                later = store.worths
                back = telling.back(worths)
                changed = [row[0] for row, x, y in zip(KEY_ROWS, worths, later) if x != y]
                self.assertEqual([effect[1] for effect in back.effects], changed)
                store |= back
                self.assertTrue(same(store.worths, worths))
                again = Store(book, worths)
                again |= telling + back
                self.assertTrue(same(again.worths, worths))


if __name__ == "__main__":
    unittest.main()
