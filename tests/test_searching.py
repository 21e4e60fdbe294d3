"""Point 2, "Searches": when TooMany is raised, on machines whose states are numbers, and on books."""

import unittest

from onlytell.beside import beside, is_true, shows_beside
from onlytell.books import Book
from onlytell.choosing import cheapest, shows_cheapest
from onlytell.errors import TooMany
from onlytell.harm import harm, shows_harm
from onlytell.searching import is_closed, searched
from tests.helpers import check_refused, lined
from tests.oracles import explored, first_pairs, first_states, harming, parting
from tests.samples import all_kept

# With all keys remembered, just 1500 and 1501 states of its show can be reached.
BOOK_1500 = Book(lined(
    "key a 3", "key b 3", "key c 3", "key d 2", "deed v 1", "  set a c", "deed w 1", "  add d c", "deed x 1",
    "  if d != b", "    add c 1",
))
BOOK_1501 = Book(lined(
    "key a 3", "key b 3", "key c 3", "key d 2", "deed v 1", "  if c = a", "    add a b", "deed w 1", "  if c = b",
    "    add a d", "deed x 3", "  add d c", "deed y 2", "  if d != b", "    add c 1",
))


def counting(last, sought=None):
    """A machine that counts to its last state; the step from one state may be sought."""
    def step(state, letter):
        return state == sought, min(state + 1, last)
    return step


class Numbers(unittest.TestCase):
    def test_all_states_that_can_be_reached(self):
        self.assertEqual(searched([0], ("x",), counting(1499)), ("table", tuple(range(1500))))
        check_refused(self, TooMany, 1500, searched, [0], ("x",), counting(1500))
        check_refused(self, TooMany, 1500, searched, [0], ("x",), counting(9999))

    def test_states_reached_by_fewer_letters_than_the_row_has(self):
        # From state n the step is sought; 0 to n are reached by fewer letters than the row has.
        for last in (0, 1, 7, 1499):
            found = searched([0], ("x",), counting(9999, sought=last))
            self.assertEqual(found, ("row", 0, ("x",) * (last + 1)))
        check_refused(self, TooMany, 1500, searched, [0], ("x",), counting(9999, sought=1500))
        check_refused(self, TooMany, 1500, searched, [0], ("x",), counting(9999, sought=2000))

    def test_states_that_the_row_reaches_by_its_last_letter_do_not_count(self):
        # By one letter two thousand states are reached, and the sought step is a first one.
        letters = tuple(range(2000))

        def step(state, letter):
            return state == 0 and letter == 1999, (state, letter)

        self.assertEqual(searched([0], letters, step), ("row", 0, (1999,)))

        def later_step(state, letter):
            return state == 1 and letter == 5, letter if state == 0 else state

        check_refused(self, TooMany, 1500, searched, [0], letters, later_step)
        self.assertEqual(searched([0], tuple(range(1500)), later_step), ("row", 0, (1, 5)))

    def test_the_letters_of_the_row_stand_in_their_sequence(self):
        def step(state, letter):
            return state + (letter,) == tuple("yxzzy"), (state + (letter,))[-4:] if len(state) < 4 else state

        self.assertEqual(searched([()], tuple("xyz"), step), ("row", (), tuple("yxzzy")))

    def test_all_first_states_compete(self):
        self.assertEqual(searched([0, 7, 3], ("x",), counting(99, sought=8)), ("row", 7, ("x", "x")))

    def test_closed_tables(self):
        self.assertTrue(is_closed((0, 1, 2), [0], ("x",), counting(2)))
        self.assertTrue(is_closed(tuple(range(5000)), [0], ("x",), counting(4999)))
        self.assertFalse(is_closed((0, 1), [0], ("x",), counting(2)))
        self.assertFalse(is_closed((1, 2), [0], ("x",), counting(2)))
        self.assertFalse(is_closed((0, 1, 2), [0], ("x",), counting(2, sought=2)))


class Books(unittest.TestCase):
    def test_both_sides_of_1500_states(self):
        for book in (BOOK_1500, BOOK_1501):
            memory = all_kept(book)
            many = {BOOK_1500.text: 1500, BOOK_1501.text: 1501}[book.text]
            table = explored(first_states(book), book.letters, harming(book, memory))[1]
            pairs = explored(first_pairs(book), book.letters, parting(book, ("run",), book, ("show", memory)))[1]
            self.assertEqual((len(table), len(pairs)), (many, many))
            self.assertTrue(shows_harm(book, memory, ("none", table)))
            self.assertTrue(shows_beside(book, ("run",), book, ("show", memory), ("alike", pairs)))
            if many == 1500:
                self.assertEqual(harm(book, memory), ("none", table))
                self.assertEqual(beside(book, ("run",), book, ("show", memory)), ("alike", pairs))
                self.assertTrue(is_true(book, memory))
            else:
                check_refused(self, TooMany, 1500, harm, book, memory)
                check_refused(self, TooMany, 1500, beside, book, ("run",), book, ("show", memory))
                check_refused(self, TooMany, 1500, is_true, book, memory)

    def test_a_row_of_one_letter_is_told_however_many_states_there_are(self):
        book = Book(lined(BOOK_1501.text, "deed z 1", "  set a 1", "  say a"))
        memory = (("b", "row"), ("c", "row"), ("d", "row"))
        answer = beside(book, ("run",), book, ("show", memory))
        self.assertEqual((answer[0], answer[2]), ("parts", (("z", 0),)))
        sly = Book(lined(BOOK_1501.text, "deed z 1 blind", "  set a 1"))
        answer = harm(sly, all_kept(sly))
        self.assertEqual((answer[0], answer[2]), ("harms", (("z", 0),)))

    def test_rows_of_four_letters_behind_more_or_fewer_states(self):
        # d is forgotten: x changes it in the run, then v and w must come ahead of z, which tells it.
        text = lined(
            "key a 3", "key b 3", "key c 2", "key d 2", "deed v 1", "  add a 1", "deed w 1", "  add b 1", "deed y 3",
            "  set c it", "deed x 1", "  if a = 2", "    if b = 2", "      add d 1", "deed z 1", "  if a = 0",
            "    if b = 0", "      say d",
        )
        memory = (("a", "row"), ("b", "row"), ("c", "row"))
        few, many = Book(text), Book(text.replace("key c 2", "key c 3"))
        for book in (few, many):
            step = parting(book, ("run",), book, ("show", memory))
            self.assertEqual(explored(first_pairs(book), book.letters, step), (4, None))
            row = (("x", 0), ("v", 0), ("w", 0), ("z", 0))
            for longer in (row, (("y", 1),) + row, (("x", 0),) * 2 + row, row[:3] + (("y", 0),) * 50 + row[3:]):
                value = ("parts", (2, 2, 0, 0), longer)
                self.assertTrue(shows_beside(book, ("run",), book, ("show", memory), value))
        answer = beside(few, ("run",), few, ("show", memory))
        self.assertEqual((answer[0], sorted(answer[2][:3]), answer[2][3]),
                         ("parts", [("v", 0), ("w", 0), ("x", 0)], ("z", 0)))
        self.assertFalse(is_true(few, memory))
        check_refused(self, TooMany, 1500, beside, many, ("run",), many, ("show", memory))
        check_refused(self, TooMany, 1500, is_true, many, memory)

    def test_other_states_of_few_can_be_more_than_1500(self):
        text = lined("key a 3", "key b 3", "key c 3", "key d 2", "deed v 3", "  set a it", "deed w 3", "  set b it",
                     "deed x 1", "  add c 1", "deed z 1", "  say d", "  add d 1")
        book, memory = Book(text), (("a", "row"), ("b", "row"), ("c", "row"))
        self.assertEqual(len(beside(book, ("run",), book, ("show", memory))[2]), 2)
        check_refused(self, TooMany, 1500, beside, book, ("run",), book, ("show", all_kept(book)))
        check_refused(self, TooMany, 1500, harm, book, all_kept(book))
        self.assertEqual(len(beside(book, ("run",), book, ("run",))[1]), 54)

    def test_greater_closed_tables(self):
        book = Book(lined("key a 3", "key b 3", "key c 3", "key d 2", "deed look 1", "  say a", "deed put 3",
                          "  set a it"))
        memory = all_kept(book)
        self.assertEqual(len(harm(book, memory)[1]), 54 * 4)
        lefts = [()]
        for name, size, _ in book.key_rows:
            lefts = lefts + [left + ((name, worth),) for left in lefts for worth in range(size)]
        table = tuple(sorted((store, left) for store in book.stores for left in lefts))
        self.assertEqual(len(table), 54 * 4 * 4 * 4 * 3)
        self.assertTrue(shows_harm(book, memory, ("none", table)))
        self.assertFalse(shows_harm(book, memory, ("none", table[1:])))
        self.assertFalse(shows_harm(book, memory, ("none", table[:-1] + table[-2:])))

    def test_cheapest_with_just_1500_states(self):
        # No statement changes b; a must be remembered too, when it is said.
        book = Book(BOOK_1500.text.replace("  set a c", "  set a c\n  say a"))
        offers = tuple((("keep", name, "row"), price) for name, price in zip("acd", (1, 2, 4)))
        answer = cheapest(book, offers)
        self.assertEqual((answer[:2], len(answer[4])), (("choice", 7), 7))
        self.assertEqual([len(table) for table in answer[3]], [1500, 1500])
        self.assertTrue(shows_cheapest(book, offers, answer))

    def test_cheapest_with_too_many_states(self):
        # No statement changes b, so all but b must be remembered.
        offers = tuple((("keep", name, "row"), price) for name, price in zip("acd", (1, 2, 4)))
        memory = tuple((name, "row") for name in "acd")
        check_refused(self, TooMany, 1500, cheapest, BOOK_1501, offers)
        reasons = []
        for number in range(7):
            choice = tuple(change for place, (change, _) in enumerate(offers) if number >> place & 1)
            found = beside(BOOK_1501, ("run",), BOOK_1501, ("show", tuple(change[1:] for change in choice)))
            reasons.append((choice,) + found)
        self.assertEqual({reason[1] for reason in reasons}, {"parts"})
        pairs = explored(first_pairs(BOOK_1501), BOOK_1501.letters,
                         parting(BOOK_1501, ("run",), BOOK_1501, ("show", memory)))[1]
        states = explored(first_states(BOOK_1501), BOOK_1501.letters, harming(BOOK_1501, memory))[1]
        best = tuple(change for change, _ in offers)
        self.assertTrue(shows_cheapest(BOOK_1501, offers, ("choice", 7, best, (pairs, states), tuple(reasons))))
        self.assertTrue(shows_cheapest(BOOK_1501, offers, ("choice", 7, best, (pairs,), tuple(reasons)), wish="true"))
        self.assertFalse(shows_cheapest(BOOK_1501, offers, ("choice", 7, best, (pairs, states), tuple(reasons[1:]))))
        # With nothing remembered nothing is harmed, and no further choice is needed.
        self.assertEqual(cheapest(BOOK_1501, offers, wish="harmless")[:3], ("choice", 0, ()))


if __name__ == "__main__":
    unittest.main()
