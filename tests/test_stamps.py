"""Point 12 and guarantees (c) and (d): on which keys a telling depends, and which are cheapest to compare."""

import unittest
from itertools import combinations

from onlytell.books import Book
from onlytell.errors import BadPrices, BadRow, BadStore
from onlytell.looks import looks
from onlytell.machines import stepped
from onlytell.running import ran
from onlytell.stamps import hangs, reads, shows_hangs, shows_stamps, stamps
from tests.helpers import ANY_VALUES, check_refused, lined, nested, same, three_keys
from tests.oracles import changed
from tests.samples import (
    FLIP, PAIR, SAMPLES, WRONG_ROWS, WRONG_STORES, is_one_of, small_rows, wrong_prices,
)

# Both blocks say the same, so the telling does not hang on a, though it is read; b counts where m is there.
SPARE = lined("key a 2", "may m 2", "key b 3", "deed put 1", "  if a = 0", "    say 1", "  else", "    say 1",
              "  if has m", "    say b")
NOTHING = lined("key a 2", "key b 2", "deed d 1", "  say 1", "  set a 1")


def names_of(book):
    return sorted(row[0] for row in book.key_rows)


def differ_in(book, store, other):
    """The keys in which two stores differ."""
    return [row[0] for row, one, two in zip(book.key_rows, store, other) if one != two]


def told(book, row):
    return {store: ran(book, store, row)[0] for store in book.stores}


def looks_of_run(book, store, row):
    """All looks of a run of the row, letter by letter."""
    found, state = [], (store, ())
    for letter in row:
        found.append(looks(book, ("run",), state, letter))
        state = stepped(book, ("run",), state, letter)[1]
    return found


def key_sets(book, prices):
    """(price, keys) of all sets, in the sequence in which they are tried."""
    price_of = {row[0]: price for row, price in zip(book.key_rows, prices)}
    sets = [keys for many in range(len(prices) + 1) for keys in combinations(names_of(book), many)]
    return [(sum(price_of[key] for key in keys), keys)
            for keys in sorted(sets, key=lambda keys: (sum(price_of[key] for key in keys), len(keys), keys))]


def unlike(book, tellings, store, keys):
    """The stores that agree with this one on the keys, from which something else is told."""
    return [other for other in book.stores if not set(keys) & set(differ_in(book, store, other))
            and tellings[other] != tellings[store]]


def books_and_rows():
    for book in SAMPLES:
        for row in small_rows(book, 2 if len(book.letters) < 5 else 1):
            yield book, row
    for row in small_rows(Book(SPARE), 2):
        yield Book(SPARE), row


class Hangs(unittest.TestCase):
    def test_each_key_on_which_the_telling_hangs(self):
        many = 0
        for book, row in books_and_rows():
            tellings = told(book, row)
            keys = {differ_in(book, store, other)[0] for store in book.stores for other in book.stores
                    if len(differ_in(book, store, other)) == 1 and tellings[store] != tellings[other]}
            answer = hangs(book, row)
            with self.subTest(book=book.text, row=row):
                self.assertTrue(same(tuple(member[0] for member in answer), tuple(sorted(keys))))
                for key, store, other in answer:
                    self.assertTrue(is_one_of(book.stores, store) and is_one_of(book.stores, other))
                    self.assertEqual(differ_in(book, store, other), [key])
                    self.assertNotEqual(tellings[store], tellings[other])
                self.assertIs(shows_hangs(book, row, answer), True)
                self.assertTrue(same(hangs(Book(book.text), row), answer))
            many += len(answer)
        self.assertGreater(many, 50)

    def test_a_row_without_letters_hangs_on_nothing(self):
        for book in SAMPLES:
            self.assertTrue(same(hangs(book, ()), ()))
            self.assertIs(shows_hangs(book, (), ()), True)
            self.assertIs(shows_hangs(book, (), (("a", (0, 0), (1, 0)),)), False)

    def test_a_key_that_is_read_and_does_not_count(self):
        book, row = Book(SPARE), (("put", 0),)
        self.assertEqual([member[0] for member in hangs(book, row)], ["b", "m"])
        self.assertEqual(reads(book, (0, 0, 0), row), ("a", "b", "m"))

    def test_ascending_by_the_names_of_the_keys(self):
        book = Book(lined("key z 2", "key a 2", "key m 2", "deed d 1", "  say z", "  say a + m"))
        self.assertEqual([member[0] for member in hangs(book, (("d", 0),))], ["a", "m", "z"])

    def test_a_worth_that_is_only_set_counts_where_it_is_told_later(self):
        book = Book(PAIR)
        self.assertEqual([member[0] for member in hangs(book, (("look", 0),))], ["b"])
        self.assertEqual(hangs(book, (("put", 0), ("look", 0))), ())
        self.assertEqual([member[0] for member in hangs(book, (("look", 0), ("put", 0)))], ["b"])

    def test_by_the_names_of_the_arguments(self):
        book, row = Book(FLIP), (("look", 0),)
        answer = hangs(row=row, book=book)
        self.assertIs(shows_hangs(value=answer, row=row, book=book), True)

    def test_bad_rows(self):
        for value, number in WRONG_ROWS:
            check_refused(self, BadRow, number, hangs, three_keys(), value)
            check_refused(self, BadRow, number, shows_hangs, three_keys(), value, ())


class ShownHangs(unittest.TestCase):
    def is_right(self, book, row, value):
        """Whether the value is right, as the document says it."""
        tellings, right = told(book, row), hangs(book, row)
        if type(value) is not tuple or len(value) != len(right):
            return False
        for member, (key, _, _) in zip(value, right):
            if type(member) is not tuple or len(member) != 3 or not same(member[0], key):
                return False
            if not is_one_of(book.stores, member[1]) or not is_one_of(book.stores, member[2]):
                return False
            if differ_in(book, member[1], member[2]) != [key] or tellings[member[1]] == tellings[member[2]]:
                return False
        return True

    def test_any_two_such_stores_in_either_sequence(self):
        many = 0
        for text, row in ((FLIP, (("look", 0),)), (SPARE, (("put", 0),)), (PAIR, (("look", 0),))):
            book = Book(text)
            answer = hangs(book, row)
            for number, (key, store, other) in enumerate(answer):
                for one in book.stores:
                    for two in book.stores:
                        value = answer[:number] + ((key, one, two),) + answer[number + 1:]
                        right = self.is_right(book, row, value)
                        self.assertIs(shows_hangs(book, row, value), right, value)
                        many += right
                swapped = answer[:number] + ((key, other, store),) + answer[number + 1:]
                self.assertIs(shows_hangs(book, row, swapped), True)
        self.assertGreater(many, 20)

    def test_each_change_of_an_answer(self):
        for text, row in ((FLIP, (("look", 0),)), (SPARE, (("put", 0), ("put", 0))), (NOTHING, (("d", 0),))):
            book = Book(text)
            answer = hangs(book, row)
            for value in changed(answer):
                self.assertIs(shows_hangs(book, row, value), self.is_right(book, row, value), value)

    def test_keys_left_out_too_many_twice_and_not_ascending(self):
        book, row = Book(FLIP), (("look", 0),)
        one, other = ("a", (0, 0), (1, 0)), ("b", (0, 0), (0, 1))
        self.assertIs(shows_hangs(book, row, (one, other)), True)
        for value in ((one,), (other,), (), (other, one), (one, one), (other, other), (one, one, other),
                      (one, other, other), (one, other, ("c", (0, 0), (0, 1))), [one, other], (list(one), other),
                      (one[:2], other), (one + (0,), other), ((0,) + one, other)):
            self.assertIs(shows_hangs(book, row, value), False, value)

    def test_stores_that_are_no_such_pair(self):
        book, row = Book(FLIP), (("look", 0),)
        other = ("b", (0, 0), (0, 1))
        for member in (("a", (0, 0), (1, 1)), ("a", (0, 0), (0, 1)), ("a", (0, 0), (0, 0)), ("b", (0, 0), (1, 0)),
                       ("a", (0, 0), (2, 0)), ("a", (0, 0), (True, 0)), ("a", (False, 0), (1, 0)),
                       ("a", (0, 0), [1, 0]), ("a", [0, 0], (1, 0)), ("a", (0, 0), (1,)), ("a", (0, 0), None),
                       ("a", 0, 1), (("a",), (0, 0), (1, 0)), (None, (0, 0), (1, 0)), ("a", (0, -1), (1, -1))):
            self.assertIs(shows_hangs(book, row, (member, other)), False, member)
        # From these two the row tells the same: m is gone, so b does not count.
        book, row = Book(SPARE), (("put", 0),)
        right = hangs(book, row)
        self.assertIs(shows_hangs(book, row, (("b", (0, 0, 0), (0, 0, 1)), right[1])), True)
        self.assertIs(shows_hangs(book, row, (("b", (0, -1, 0), (0, -1, 1)), right[1])), False)
        self.assertIs(shows_hangs(book, row, (right[0], ("m", (1, -1, 2), (1, 1, 2)))), True)
        self.assertIs(shows_hangs(book, row, (right[0], ("m", (1, 0, 2), (1, 1, 2)))), False)

    def test_values_of_other_kinds(self):
        for text, row in ((FLIP, (("look", 0),)), (PAIR, (("look", 0),)), (NOTHING, ())):
            book = Book(text)
            for value in ANY_VALUES + (nested(30), (nested(30), nested(30)), "ab", (None, None), ((), ()), ("a", "b")):
                self.assertIs(shows_hangs(book, row, value), value == () and type(value) is tuple and text == NOTHING)


class Reads(unittest.TestCase):
    def check_reads(self, expected, row, store, *lines):
        book = Book(lined("key a 3", "may m 3", "key b 2", "group g a m b", *lines))
        with self.subTest(lines=lines, row=row, store=store):
            self.assertTrue(same(reads(book, store, row), expected), reads(book, store, row))

    def check_deed(self, expected, lines, *more, store=(2, 1, 0)):
        self.check_reads(expected, (("d", 0),), store, "deed d 1", *["  " + line for line in lines], *more)

    def test_just_the_keys_without_whose_worth_the_looks_could_be_others(self):
        # With another worth of such a key the first look at it finds it; without, all looks stay as they are.
        many = 0
        for book in SAMPLES:
            for row in small_rows(book, 2):
                for store in book.stores:
                    own = looks_of_run(book, store, row)
                    keys = {differ_in(book, store, other)[0] for other in book.stores
                            if len(differ_in(book, store, other)) == 1 and looks_of_run(book, other, row) != own}
                    self.assertTrue(same(reads(book, store, row), tuple(sorted(keys))), (book.text, row, store))
                    many += 1
        self.assertGreater(many, 1000)

    def test_a_row_without_letters(self):
        for book in SAMPLES:
            for store in book.stores:
                self.assertTrue(same(reads(book, store, ()), ()))

    def test_each_kind_of_statement(self):
        for line, keys in (("say a", ("a",)), ("say 1", ()), ("say b + a", ("a", "b")), ("say it", ()), ("set a 1", ()),
                           ("set a b", ("b",)), ("add a 1", ("a",)), ("add a b", ("a", "b")), ("drop m", ("m",)),
                           ("if has m\n    end", ("m",)), ("if a = b\n    end", ("a", "b")),
                           ("if 1 != b\n    end", ("b",)), ("each g\n    end", ("a", "b", "m")), ("ask e a", ("a",)),
                           ("try e b", ("b",)), ("refuse no", ()), ("end", ())):
            self.check_deed(keys, [line], "deed e 1", "  end")

    def test_a_key_that_is_set_added_to_or_dropped_ahead(self):
        self.check_deed((), ["set a 1", "say a"])
        self.check_deed((), ["set a 2", "say a"])
        self.check_deed(("a",), ["say a", "set a 1", "say a"])
        self.check_deed(("a",), ["set a a", "say a"])
        self.check_deed(("a",), ["add a 0", "say a"])
        self.check_deed(("b",), ["set a 1", "say b + a"])
        self.check_deed(("m",), ["drop m", "if has m", "  say 1"])
        self.check_deed((), ["set m 1", "drop m", "if has m", "  say m"])
        self.check_deed((), ["set m 1", "add m 1", "say m"])
        self.check_deed((), ["set a 1", "set b 1", "set m 1", "each g", "  say here"])
        self.check_deed(("m",), ["set a 1", "set b 1", "each g", "  say here"])

    def test_a_key_that_is_changed_by_an_earlier_letter_of_the_row(self):
        lines = ("deed d 1", "  set a 1", "deed e 1", "  say a + b", "deed f 1", "  add b 1")
        self.check_reads(("b",), (("d", 0), ("e", 0)), (2, 1, 0), *lines)
        self.check_reads(("a", "b"), (("e", 0), ("d", 0)), (2, 1, 0), *lines)
        self.check_reads(("a", "b"), (("e", 0), ("d", 0), ("e", 0)), (2, 1, 0), *lines)
        self.check_reads(("b",), (("f", 0), ("d", 0), ("e", 0)), (2, 1, 0), *lines)
        self.check_reads((), (("d", 0),) * 5, (2, 1, 0), *lines)
        self.check_reads((), (("d", 0), ("d", 0)), (1, 1, 0), *lines)

    def test_a_change_that_was_taken_back_does_not_count(self):
        more = ("deed e 1", "  set a 1", "  set b 1", "  refuse no")
        self.check_deed(("a",), ["try e 0", "  say a"], *more)
        self.check_deed(("a", "b"), ["try e 0", "  say a", "say b"], *more)
        self.check_deed((), ["set a 0", "set b 0", "try e 0", "say a + b"], *more)
        self.check_deed(("b",), ["set a 0", "try e 0", "say a + b"], *more)
        # The whole letter is taken back, so the next one reads the worth that was there at first.
        lines = ("deed d 1", "  set a 1", "  ask e 0", "deed e 1", "  set b 1", "  refuse no", "deed f 1",
                 "  say a + b")
        self.check_reads((), (("d", 0),), (2, 1, 0), *lines)
        self.check_reads(("a", "b"), (("d", 0), ("f", 0)), (2, 1, 0), *lines)
        self.check_reads(("a", "b"), (("f", 0), ("d", 0)), (2, 1, 0), *lines)

    def test_a_change_that_stays_though_another_one_was_taken_back(self):
        more = ("deed e 1", "  set a 1", "  refuse no", "deed f 1", "  set b 1")
        self.check_deed(("a",), ["ask f 0", "try e 0", "say a + b"], *more)
        self.check_deed((), ["ask f 0", "set a 0", "try e 0", "say a + b"], *more)

    def test_looks_within_deeds_that_are_refused_count(self):
        self.check_deed(("a",), ["say a", "refuse no"])
        self.check_deed(("a", "b"), ["say a", "say b", "refuse no"])
        self.check_deed(("b",), ["try e 0"], "deed e 1", "  say b", "  refuse no")
        self.check_deed(("b",), ["ask e 0", "say a"], "deed e 1", "  say b", "  refuse no")
        self.check_deed((), ["try e 0"], "deed e 1", "  set b 1", "  say b", "  refuse no")
        self.check_deed(("m",), ["say m + a"], store=(2, -1, 0))
        self.check_deed(("a", "m"), ["say a + m"], store=(2, -1, 0))
        self.check_deed(("m",), ["drop m", "say a"], store=(2, -1, 0))

    def test_a_change_ahead_of_the_look_within_the_deed_that_is_refused(self):
        self.check_deed((), ["try e 0"], "deed e 1", "  set a 1", "  say a", "  refuse no")
        self.check_deed(("a",), ["try e 0", "  try e 0"], "deed e 1", "  say a", "  set a 1", "  refuse no")

    def test_a_set_of_a_key_by_which_deeds_are_woken(self):
        more = ("deed e 1 when a", "  say b")
        self.check_deed(("a", "b"), ["set a 1"], *more)
        self.check_deed(("a",), ["set a 2"], *more)
        self.check_deed(("a", "b"), ["set a 1", "set a 2"], *more)
        self.check_deed((), ["set b 1"], *more)
        self.check_deed(("a",), ["set b 0", "set a 1"], *more)
        self.check_deed(("b", "m"), ["set m b"], "deed e 1 when m", "  say m")
        self.check_deed(("m",), ["set m 1"], "deed e 1 when m", "  say m")

    def test_keys_that_are_gone(self):
        self.check_deed(("m",), ["if has m", "  say m", "set m 1", "say m"], store=(0, -1, 0))
        self.check_deed((), ["set m 1", "say m"], store=(0, -1, 0))
        self.check_deed(("a", "b", "m"), ["each g", "  end"], store=(0, -1, 0))
        self.check_deed(("a", "b", "m"), ["each g", "  if has m", "    drop m", "say b"], store=(0, 1, 0))

    def test_where_each_meets_keys_that_were_changed_in_it(self):
        self.check_deed(("b", "m"), ["set a 1", "each g", "  say 1"])
        self.check_deed(("a", "b", "m"), ["each g", "  set b 1"])

    def test_by_the_names_of_the_arguments(self):
        self.assertEqual(reads(row=(("look", 0),), store=(0, 0), book=Book(PAIR)), ("b",))

    def test_errors_in_their_sequence(self):
        for value in WRONG_STORES:
            check_refused(self, BadStore, value, reads, three_keys(), value, None)
        for value, number in WRONG_ROWS:
            check_refused(self, BadRow, number, reads, three_keys(), (0, 0, 0), value)


class Stamps(unittest.TestCase):
    def check_stamps(self, book, store, row, prices):
        tellings = told(book, row)
        answer = stamps(book, store, row, prices)
        ahead = []
        for price, keys in key_sets(book, prices):
            if not unlike(book, tellings, store, keys):
                break
            ahead.append(keys)
        with self.subTest(book=book.text, store=store, row=row, prices=prices):
            self.assertTrue(same(answer[:2], (price, keys)), answer)
            self.assertTrue(same(tuple(reason[0] for reason in answer[2]), tuple(ahead)), answer)
            for keys_ahead, other in answer[2]:
                self.assertTrue(is_one_of(unlike(book, tellings, store, keys_ahead), other))
            self.assertEqual([len(reason) for reason in answer[2]], [2] * len(ahead))
            self.assertIs(shows_stamps(book, store, row, prices, answer), True)
            self.assertTrue(same(stamps(Book(book.text), store, row, prices), answer))
        return answer

    def test_each_book(self):
        found = []
        for book, row in books_and_rows():
            for store in book.stores[::5]:
                for prices in ((1, 1, 1, 1), (1, 2, 3, 4), (9, 8, 1, 1)):
                    found.append(len(self.check_stamps(book, store, row, prices[:len(book.key_rows)])[1]))
        self.assertGreater(min(found.count(0), found.count(1), found.count(2)), 20)

    def test_good_as_long_as_the_keys_have_their_worths(self):
        # Guarantee (d).
        for book, row in books_and_rows():
            tellings = told(book, row)
            for store in book.stores[::7]:
                keys = stamps(book, store, row, (1,) * len(book.key_rows))[1]
                for other in book.stores:
                    if not set(keys) & set(differ_in(book, store, other)):
                        self.assertEqual(tellings[other], tellings[store])

    def test_the_keys_that_are_read_always_suffice(self):
        for book, row in books_and_rows():
            tellings = told(book, row)
            for store in book.stores:
                self.assertEqual(unlike(book, tellings, store, reads(book, store, row)), [])

    def test_the_empty_set(self):
        self.assertTrue(same(stamps(Book(NOTHING), (0, 0), (("d", 0),), (3, 2)), (0, (), ())))
        self.assertTrue(same(stamps(Book(FLIP), (0, 0), (("flip", 0),), (3, 2)), (0, (), ())))
        self.assertTrue(same(stamps(Book(FLIP), (0, 0), (), (3, 2)), (0, (), ())))

    def test_sets_of_the_same_price_by_how_many_keys_they_have_then_as_tuples(self):
        # c alone suffices where it is 0, otherwise a and b are told.
        book = Book(lined("key b 2", "key c 2", "key a 2", "key d 2", "deed x 1", "  if c = 1", "    say a + b",
                          "  if c = 1", "    say a"))
        row = (("x", 0),)
        told_sets = [keys for keys, _ in self.check_stamps(book, (0, 0, 0, 0), row, (1, 2, 1, 2))[2]]
        self.assertEqual(told_sets, [(), ("a",), ("b",)])
        told_sets = [keys for keys, _ in self.check_stamps(book, (1, 1, 1, 0), row, (1, 2, 1, 2))[2]]
        # Of the price 4, both keys of 2 come ahead of the three that suffice.
        self.assertEqual(told_sets, [(), ("a",), ("b",), ("c",), ("d",), ("a", "b"), ("a", "c"), ("a", "d"), ("b", "c"),
                                     ("b", "d"), ("c", "d")])
        self.assertEqual(stamps(book, (1, 1, 1, 0), row, (1, 2, 1, 2))[:2], (4, ("a", "b", "c")))
        self.assertEqual(stamps(book, (0, 0, 0, 0), row, (1, 2, 1, 2))[:2], (2, ("c",)))
        # Two keys of 1 come behind one of 2, but ahead of one of 3.
        self.assertEqual([keys for keys, _ in stamps(book, (0, 0, 0, 0), row, (1, 3, 1, 9))[2]],
                         [(), ("a",), ("b",), ("a", "b")])

    def test_prices_belong_to_the_keys_in_the_sequence_of_the_text(self):
        book = Book(lined("key z 2", "key a 2", "deed x 1", "  if z = a", "    say 1"))
        self.assertEqual(stamps(book, (0, 0), (("x", 0),), (2, 5))[:2], (7, ("a", "z")))
        self.assertEqual([keys for keys, _ in stamps(book, (0, 0), (("x", 0),), (2, 5))[2]], [(), ("z",), ("a",)])
        self.assertEqual([keys for keys, _ in stamps(book, (0, 0), (("x", 0),), (5, 2))[2]], [(), ("a",), ("z",)])

    def test_by_the_names_of_the_arguments(self):
        book = Book(PAIR)
        answer = stamps(prices=(3, 2), row=(("look", 0),), store=(0, 0), book=book)
        self.assertEqual(answer[:2], (2, ("b",)))
        self.assertIs(shows_stamps(value=answer, prices=(3, 2), row=(("look", 0),), store=(0, 0), book=book), True)

    def test_errors_in_their_sequence(self):
        book = three_keys()
        for call, more in ((stamps, ()), (shows_stamps, (None,))):
            for value in WRONG_STORES:
                check_refused(self, BadStore, value, call, book, value, None, None, *more)
            for value, number in WRONG_ROWS:
                check_refused(self, BadRow, number, call, book, (0, 0, 0), value, None, *more)
            for value in wrong_prices(3):
                check_refused(self, BadPrices, value, call, book, (0, 0, 0), (), value, *more)
            for prices in ((1, 1, 1), (9, 9, 9), (1, 5, 9)):
                call(book, (0, 0, 0), (), prices, *more)


class ShownStamps(unittest.TestCase):
    def is_right(self, book, store, row, prices, value):
        tellings, right = told(book, row), stamps(book, store, row, prices)
        if type(value) is not tuple or len(value) != 3 or not same(value[:2], right[:2]):
            return False
        if type(value[2]) is not tuple or len(value[2]) != len(right[2]):
            return False
        for member, (keys, _) in zip(value[2], right[2]):
            if type(member) is not tuple or len(member) != 2 or not same(member[0], keys):
                return False
            if not is_one_of(unlike(book, tellings, store, keys), member[1]):
                return False
        return True

    CASES = (
        (FLIP, (0, 0), (("look", 0),), (1, 1)), (PAIR, (0, 0), (("look", 0),), (3, 2)),
        (NOTHING, (0, 0), (("d", 0),), (1, 1)), (SPARE, (0, 0, 2), (("put", 0),), (1, 2, 1)),
        (SPARE, (1, -1, 0), (("put", 0),), (1, 1, 1)), (PAIR, (1, 1), (("look", 0), ("put", 0)), (1, 1)),
    )

    def test_any_other_store_that_agrees_and_tells_something_else(self):
        many = 0
        for text, store, row, prices in self.CASES:
            book = Book(text)
            price, keys, reasons = stamps(book, store, row, prices)
            for number, (keys_ahead, _) in enumerate(reasons):
                for other in book.stores:
                    value = (price, keys, reasons[:number] + ((keys_ahead, other),) + reasons[number + 1:])
                    right = self.is_right(book, store, row, prices, value)
                    self.assertIs(shows_stamps(book, store, row, prices, value), right, value)
                    many += right
        self.assertGreater(many, 20)

    def test_each_change_of_an_answer(self):
        for text, store, row, prices in self.CASES:
            book = Book(text)
            for value in changed(stamps(book, store, row, prices)):
                right = self.is_right(book, store, row, prices, value)
                self.assertIs(shows_stamps(book, store, row, prices, value), right, value)

    def test_reasons_exchanged_left_out_doubled(self):
        book, row = Book(FLIP), (("look", 0),)
        price, keys, reasons = stamps(book, (0, 0), row, (1, 1))
        self.assertEqual([reason[0] for reason in reasons], [(), ("a",), ("b",)])
        for wrong in (reasons[::-1], reasons[1:], reasons[:-1], reasons + reasons[-1:], reasons[:1] + reasons, (),
                      (reasons[0], reasons[2], reasons[1]), list(reasons), reasons + ((("a", "b"), (0, 1)),)):
            self.assertIs(shows_stamps(book, (0, 0), row, (1, 1), (price, keys, wrong)), False, wrong)

    def test_another_set_and_another_price(self):
        book, row = Book(PAIR), (("look", 0),)
        price, keys, reasons = stamps(book, (0, 0), row, (1, 2))
        self.assertEqual((price, keys, [reason[0] for reason in reasons]), (2, ("b",), [(), ("a",)]))
        dearer = reasons + ((("b",), (0, 1)),)
        for value in ((1, ("a",), reasons[:1]), (0, (), ()), (3, ("a", "b"), dearer), (3, ("a", "b"), reasons),
                      (1, ("b",), reasons), (2, ("a",), reasons), (2, ["b"], reasons), (2, "b", reasons),
                      (2, ("b", "b"), reasons), (True + 1, ("b",), reasons[::-1]), ("2", ("b",), reasons),
                      (2, ("b",), reasons, ()), (2, ("b",)), [2, ("b",), reasons]):
            self.assertIs(shows_stamps(book, (0, 0), row, (1, 2), value), False, value)

    def test_a_price_of_0_is_not_false_and_one_of_1_is_not_true(self):
        self.assertIs(shows_stamps(Book(NOTHING), (0, 0), (), (1, 1), (0, (), ())), True)
        self.assertIs(shows_stamps(Book(NOTHING), (0, 0), (), (1, 1), (False, (), ())), False)
        book = Book(lined("key a 2", "deed d 1", "  say a"))
        answer = stamps(book, (0,), (("d", 0),), (1,))
        self.assertTrue(same(answer, (1, ("a",), (((), (1,)),))))
        self.assertIs(shows_stamps(book, (0,), (("d", 0),), (1,), answer), True)
        self.assertIs(shows_stamps(book, (0,), (("d", 0),), (1,), (True,) + answer[1:]), False)
        self.assertIs(shows_stamps(book, (0,), (("d", 0),), (1,), (1, ("a",), (((), (True,)),))), False)

    def test_values_of_other_kinds(self):
        for text, store, row, prices in self.CASES:
            for value in ANY_VALUES + (nested(30), (nested(30),) * 3, (0, (), None), (0, None, ()), (None, (), ()),
                                       (0, (), [()]), ((), 0, ()), ("a", "b", "c"), (1, ("a",), (None,)), (0, [], ())):
                self.assertIs(shows_stamps(Book(text), store, row, prices, value), False, value)


if __name__ == "__main__":
    unittest.main()
