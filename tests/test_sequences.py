"""Point 14: in which sequences several previews hold."""

import unittest
from itertools import permutations

from onlytell.books import Book
from onlytell.errors import BadRows, BadStore
from onlytell.running import ran
from onlytell.sequences import sequences
from tests.helpers import ANY_VALUES, check_refused, lined, nested, same, three_keys
from tests.samples import BOTH, PAIR, SAMPLES, WRONG_ROWS, WRONG_STORES, small_rows

PUT, LOOK = ("put", 0), ("look", 0)

# Each letter of put tells what was put ahead.
LAST = lined("key a 3", "deed put 3", "  say a", "  set a it", "deed look 1", "  say a", "deed quiet 1", "  say 1")


def worked_out(book, store, rows):
    """The answer, as `ran` gives it."""
    told = [ran(book, store, row)[0] for row in rows]
    kept, reasons = [], []
    for numbers in permutations(range(len(rows))):
        now, at = store, None
        for place, number in enumerate(numbers):
            tellings, now = ran(book, now, rows[number])
            if tellings != told[number]:
                at = place
                break
        if at is None:
            kept.append(numbers)
        else:
            reasons.append((numbers, at))
    return ("kept", kept[0], len(kept)) if kept else ("none", tuple(reasons))


class Answers(unittest.TestCase):
    def check_sequences(self, book, store, rows):
        answer = sequences(book, store, rows)
        self.assertTrue(same(answer, worked_out(book, store, rows)), (book.text, store, rows, answer))
        self.assertTrue(same(sequences(Book(book.text), store, rows), answer))
        return answer

    def test_each_book(self):
        words = []
        for book in SAMPLES + (Book(LAST),):
            rows = list(small_rows(book, 2))
            for many in (1, 2, 3, 4):
                for number in range(0, len(rows), 2):
                    chosen = tuple(rows[(number + step * step) % len(rows)] for step in range(many))
                    for store in book.stores[::4]:
                        words.append(self.check_sequences(book, store, chosen)[0])
        self.assertGreater(min(words.count("kept"), words.count("none")), 100)

    def test_one_row_is_always_kept(self):
        for book in SAMPLES:
            for row in small_rows(book, 1):
                for store in book.stores:
                    self.assertTrue(same(sequences(book, store, (row,)), ("kept", (0,), 1)))

    def test_rows_that_are_kept_in_all_sequences(self):
        book = Book(LAST)
        for many, orders in ((1, 1), (2, 2), (3, 6), (4, 24)):
            for row in ((), (LOOK,), (("quiet", 0),), (LOOK, LOOK)):
                answer = ("kept", tuple(range(many)), orders)
                self.assertTrue(same(sequences(book, (1,), (row,) * many), answer))

    def test_rows_that_are_kept_in_one_sequence(self):
        book = Book(PAIR)
        self.assertTrue(same(sequences(book, (0, 0), ((PUT,), (LOOK,))), ("kept", (1, 0), 1)))
        self.assertTrue(same(sequences(book, (0, 0), ((LOOK,), (PUT,))), ("kept", (0, 1), 1)))
        self.assertTrue(same(sequences(book, (0, 0), ((PUT,), (LOOK,), (LOOK,))), ("kept", (1, 2, 0), 2)))
        self.assertTrue(same(sequences(book, (0, 0), ((LOOK,), (PUT,), (LOOK,))), ("kept", (0, 2, 1), 2)))
        self.assertTrue(same(sequences(book, (0, 0), ((LOOK,), (PUT,), (LOOK,), (LOOK,))), ("kept", (0, 2, 3, 1), 6)))
        self.assertTrue(same(sequences(book, (0, 0), ((PUT,), (PUT,), (LOOK,), (LOOK,))), ("kept", (2, 3, 0, 1), 4)))

    def test_rows_that_are_kept_in_no_sequence(self):
        book = Book(BOTH)
        one, two = (("one", 0),), (("two", 0),)
        self.assertTrue(same(sequences(book, (0, 0), (one, two)), ("none", (((0, 1), 1), ((1, 0), 1)))))
        # In the third place of three, since one may come twice.
        self.assertTrue(same(sequences(book, (0, 0), (one, two, one)), ("none", (
            ((0, 1, 2), 1), ((0, 2, 1), 2), ((1, 0, 2), 1), ((1, 2, 0), 1), ((2, 0, 1), 2), ((2, 1, 0), 1)))))

    def test_at_is_the_place_in_the_sequence(self):
        book = Book(LAST)
        first, second = (("put", 1),), (("put", 2),)
        word, reasons = sequences(book, (0,), (first, second, (LOOK,)))
        self.assertEqual(word, "none")
        # The row that is put first spoils the next one; a look ahead of all spoils none.
        self.assertTrue(same(reasons, (((0, 1, 2), 1), ((0, 2, 1), 1), ((1, 0, 2), 1), ((1, 2, 0), 1), ((2, 0, 1), 2),
                                       ((2, 1, 0), 2))))
        word, reasons = sequences(book, (0,), (first, second, (LOOK,), (("quiet", 0),)))
        self.assertEqual((word, len(reasons)), ("none", 24))
        self.assertEqual(dict(reasons)[(2, 3, 1, 0)], 3)
        self.assertEqual(dict(reasons)[(3, 1, 2, 0)], 2)
        self.assertEqual([numbers for numbers, _ in reasons], sorted(numbers for numbers, _ in reasons))

    def test_a_row_may_tell_the_same_though_the_store_is_another_one(self):
        book = Book(LAST)
        self.assertTrue(same(sequences(book, (1,), ((("put", 1),), (LOOK,), (("put", 2),))), ("kept", (0, 1, 2), 2)))

    def test_each_row_is_previewed_from_this_store(self):
        book = Book(LAST)
        for store in book.stores:
            row = (("put", (store[0] + 1) % 3),)
            self.assertEqual(sequences(book, store, (row, (LOOK,)))[:2], ("kept", (1, 0)))

    def test_the_first_letter_that_tells_something_else_does_not_matter(self):
        book = Book(LAST)
        row = (("quiet", 0), ("quiet", 0), LOOK)
        self.assertTrue(same(sequences(book, (0,), (row, (("put", 1), ("put", 0)))), ("kept", (0, 1), 2)))
        self.assertTrue(same(sequences(book, (0,), (row, (("put", 1),))), ("kept", (0, 1), 1)))

    def test_by_the_names_of_the_arguments(self):
        self.assertEqual(sequences(rows=((PUT,), (LOOK,)), store=(0, 0), book=Book(PAIR)), ("kept", (1, 0), 1))


class Arguments(unittest.TestCase):
    def test_bad_stores(self):
        for value in WRONG_STORES:
            check_refused(self, BadStore, value, sequences, three_keys(), value, None)

    def test_bad_rows(self):
        right = (("put", 0),)
        values = list(ANY_VALUES) + [(), (right,) * 5, ((),) * 5, [right], [right, right], {right: 1}, "look",
                                     nested(30), right]
        values += [(value,) for value, _ in WRONG_ROWS]
        values += [(right, value, right) for value, _ in WRONG_ROWS]
        values += [(right, right, right, value) for value, _ in WRONG_ROWS]
        for value in values:
            with self.subTest(value=value):
                check_refused(self, BadRows, value, sequences, three_keys(), (0, 0, 0), value)

    def test_one_to_four_rows_of_any_number_of_letters(self):
        for many in (1, 2, 3, 4):
            for row in ((), (("put", 0),), (("put", 0), ("look", 0)) * 15):
                self.assertEqual(sequences(three_keys(), (0, 0, 0), (row,) * many)[0], "kept")


if __name__ == "__main__":
    unittest.main()
