"""Point 9 and guarantee (b): whether a show ever changes its base."""

import unittest
from itertools import product

from onlytell.books import Book
from onlytell.errors import BadMemory
from onlytell.harm import harm, shows_harm
from onlytell.showing import shown
from tests.helpers import ANY_VALUES, check_refused, lined, nested, same, three_keys
from tests.oracles import changed, explored, first_states, harming, is_right_row, seeks
from tests.samples import PAIR, SAMPLES, SLY, WRONG_MEMORIES, all_kept, is_without_blind_deeds, memories_of

# Blind, but it changes no store.
QUIET = lined("key a 2", "may m 2", "deed put 1", "  set a 1", "  ask sly 0", "  drop m", "deed sly 1 blind", "  say a",
              "  try off 0", "  set a a", "deed off 1", "  set a 0", "  refuse no")
# The base is changed by put only where a is 0 in the base.
SETS = lined("key a 3", "key b 2", "deed put 1", "  set b 1", "  ask sly 0", "deed sly 1 blind", "  if a = 0",
             "    set a 1")


class Answers(unittest.TestCase):
    def check_harm(self, book, memory):
        """That the answer is one that `stepped` gives, and that it is shown; returns its word."""
        answer = harm(book, memory)
        step = harming(book, memory)
        length, table = explored(first_states(book), book.letters, step)
        with self.subTest(book=book.text, memory=memory):
            if table is not None:
                self.assertTrue(same(answer, ("none", table)))
            else:
                word, store, row = answer
                self.assertEqual((word, len(row)), ("harms", length))
                self.assertEqual(seeks((store, ()), row, step), [False] * (length - 1) + [True])
            self.assertIs(shows_harm(book, memory, answer), True)
            self.assertTrue(same(harm(Book(book.text), memory), answer))
        return answer[0]

    def test_each_show_of_each_book(self):
        words = []
        for book in SAMPLES + (Book(QUIET), Book(SETS)):
            for memory in memories_of(book):
                words.append(self.check_harm(book, memory))
                if is_without_blind_deeds(book):
                    self.assertEqual(words[-1], "none")
        self.assertGreater(min(words.count("none"), words.count("harms")), 20)

    def test_blind_deeds_that_change_nothing(self):
        for memory in memories_of(Book(QUIET)):
            self.assertEqual(self.check_harm(Book(QUIET), memory), "none")

    def test_blind_deeds_that_change_the_base_of_some_store(self):
        for memory in memories_of(Book(SETS)):
            word, store, row = harm(Book(SETS), memory)
            self.assertEqual((word, store[0], len(row)), ("harms", 0, 1))

    def test_blind_deeds_that_are_refused(self):
        book = Book(lined("key a 2", "deed sly 1 blind", "  set a 1", "  refuse no", "deed try 1", "  try low 0",
                          "deed low 1 blind", "  add a 1", "  refuse no"))
        self.assertEqual([harm(book, memory)[0] for memory in memories_of(book)], ["none"] * 3)
        book = Book(lined("key a 2", "deed top 1", "  ask sly 0", "  refuse no", "deed sly 1 blind", "  set a 1"))
        self.assertEqual([harm(book, memory)[0] for memory in memories_of(book)], ["harms"] * 3)

    def test_deeds_that_are_taught_harm_no_more(self):
        for book in SAMPLES + (Book(SETS),):
            taught = book.taught(tuple(sorted(row[0] for row in book.deeds if row[2])))
            self.assertEqual(harm(taught, all_kept(book))[0], "none")
        self.assertEqual(harm(Book(SLY), ()), ("harms", (0,), (("put", 0),)))

    def test_the_table_has_what_is_remembered(self):
        book = Book(lined("key z 2", "key a 2", "deed put 1", "  set z 1", "  set a 1"))
        word, table = harm(book, (("a", "deed"), ("z", "row")))
        self.assertEqual((word, list(table)), ("none", sorted(set(table))))
        self.assertEqual(set(table), {(store, left) for store in book.stores for left in ((), (("z", 1),))})
        self.assertEqual(len(harm(book, ())[1]), 4)
        self.assertEqual(harm(book, all_kept(book))[1],
                         tuple((store, left) for store in book.stores for left in ((), (("a", 1), ("z", 1)))))

    def test_rows_of_up_to_three_letters_by_shown(self):
        for book in SAMPLES[:4] + (Book(SETS),):
            for memory in memories_of(book):
                harms = any(shown(book, store, memory, row)[1] != store for length in range(4)
                            for row in product(book.letters, repeat=length) for store in book.stores)
                self.assertEqual(harm(book, memory)[0], "harms" if harms else "none")

    def test_by_the_names_of_the_arguments(self):
        answer = harm(memory=(), book=Book(PAIR))
        self.assertIs(shows_harm(value=answer, memory=(), book=Book(PAIR)), True)

    def test_bad_memories(self):
        for value in WRONG_MEMORIES:
            check_refused(self, BadMemory, value, harm, three_keys(), value)
            check_refused(self, BadMemory, value, shows_harm, three_keys(), value, ("none", ()))


class Values(unittest.TestCase):
    """What shows_harm takes, and what it does not."""

    def check_shown(self, expected, book, memory, value):
        self.assertIs(shows_harm(book, memory, value), expected, value)

    def test_values_of_other_kinds(self):
        for book in (Book(SLY), Book(QUIET)):
            for value in ANY_VALUES + (
                "none", "harms", ("none",), ("harms",), ("none", ()), ("harms", ()), ("harms", (), ()), ("none", None),
                ("none", (), ()), ("none", (None,)), ("none", ((),)), ("none", {}), ("none", "none"), (None, ()),
                ("harms", (0,), ()), ("harms", (0,)), ("harms", None, None), (["none"], ()), (True, ()),
                ("none", nested(30)), ("harms", nested(30), nested(30)), nested(30), ("alike", ()),
            ):
                self.check_shown(False, book, (), value)

    def test_each_change_of_a_table(self):
        book = Book(QUIET)
        memory = (("a", "row"), ("m", "row"))
        answer = harm(book, memory)
        self.assertEqual(answer[0], "none")
        values = [value for value in changed(answer) if not same(value, answer)]
        self.assertGreater(len(values), 500)
        for value in values:
            self.check_shown(False, book, memory, value)

    def test_each_change_of_a_row(self):
        book = Book(SETS)
        for memory in ((), all_kept(book)):
            step = harming(book, memory)
            for row in ((("sly", 0),), (("put", 0),), (("put", 0), ("sly", 0))):
                for value in changed(("harms", (0, 1), row)):
                    right = is_right_row(book, value, "harms", lambda store: (store, ()), step, False)
                    self.check_shown(right, book, memory, value)

    def test_rows_at_each_place(self):
        book = Book(SLY)
        put, look = ("put", 0), ("look", 0)
        self.check_shown(True, book, (), ("harms", (0,), (put,)))
        for value in (
            ("harms", (1,), (put,)), ("harms", (0,), (look,)), ("harms", (0,), (put, look)),
            ("harms", (0,), (put, put)),
            ("harms", (0,), ()), ("harms", (0,), [put]), ("harms", [0], (put,)), ("harms", (False,), (put,)),
            ("harms", 0, (put,)), ("harms", (0,), (("put", False),)), ("harms", (0,), (("put", 1),)),
            ("harms", (0,), (["put", 0],)), ("harms", (0,), put), ("harms", (0,), (put,), ()), ("harms", (put,), (0,)),
            ("parts", (0,), (put,)), ("none", (0,), (put,)), ["harms", (0,), (put,)], ("harms", (2,), (put,)),
            ("harms", (0, 0), (put,)), ("harm", (0,), (put,)), ("none", (((0,), ()), ((1,), ()))),
        ):
            self.check_shown(False, book, (), value)

    def test_longer_rows_and_earlier_letters_that_change_the_base(self):
        book = Book(lined("key a 3", "deed grow 1 blind", "  add a 1", "deed look 1", "  say a"))
        grow, look = ("grow", 0), ("look", 0)
        for row in ((grow,), (look, grow), (look,) * 50 + (grow,), (grow, grow), (grow, look, grow), (grow,) * 50):
            self.check_shown(True, book, (), ("harms", (0,), row))
            self.check_shown(False, book, (), ("harms", (0,), row + (look,)))

    def test_greater_closed_tables(self):
        book = Book(lined("key a 2", "key b 2", "deed put 1", "  set b 1", "deed look 1", "  say b"))
        memory = all_kept(book)
        table = harm(book, memory)[1]
        greater = tuple(sorted(table + tuple(
            (store, left) for store in book.stores for left in ((("a", 1),), (("a", 1), ("b", 1))))))
        self.check_shown(True, book, memory, ("none", greater))
        self.check_shown(False, book, memory, ("none", greater[:-1]))
        self.check_shown(False, book, memory, ("none", greater[::-1]))
        self.check_shown(False, book, memory, ("none", greater[:1] + greater))
        # The states of this show are none of the other ones.
        self.check_shown(False, book, (), ("none", greater))
        self.check_shown(False, book, (("b", "row"),), ("none", greater))

    def test_tables_of_shows_that_harm(self):
        book = Book(SLY)
        self.check_shown(False, book, (), ("none", (((0,), ()), ((1,), ()))))


if __name__ == "__main__":
    unittest.main()
