"""Point 8 and guarantee (a): two machines beside each other."""

import unittest
from itertools import product

from onlytell.beside import beside, is_true, parted, shows_beside
from onlytell.books import Book
from onlytell.errors import BadMachine, BadMemory, Unlike
from onlytell.running import ran
from onlytell.showing import shown
from tests.helpers import ANY_VALUES, check_refused, lined, nested, same, three_keys
from tests.oracles import changed, explored, first_pairs, is_right_row, parting, seeks
from tests.samples import (
    FLIP, PAIR, SAMPLES, SLY, WRONG_MACHINES, WRONG_MEMORIES, all_kept, is_without_blind_deeds, machines_of,
    memories_of,
)

A_ROW = (("a", "row"),)


class Answers(unittest.TestCase):
    def check_beside(self, book, one, newer, other):
        """That the answer is one that `stepped` gives, and that it is shown; returns its word."""
        answer = beside(book, one, newer, other)
        step = parting(book, one, newer, other)
        length, table = explored(first_pairs(book), book.letters, step)
        with self.subTest(book=book.text, one=one, newer=newer.text, other=other):
            if table is not None:
                self.assertTrue(same(answer, ("alike", table)))
            else:
                word, store, row = answer
                self.assertEqual((word, len(row)), ("parts", length))
                found = seeks(((store, ()), (store, ())), row, step)
                self.assertEqual(found, [False] * (length - 1) + [True])
            self.assertIs(shows_beside(book, one, newer, other, answer), True)
            self.assertTrue(same(beside(Book(book.text), one, Book(newer.text), other), answer))
        return answer[0]

    def test_a_run_and_each_show(self):
        words = []
        for book in SAMPLES:
            for memory in memories_of(book):
                words.append(self.check_beside(book, ("run",), book, ("show", memory)))
                self.assertIs(is_true(book, memory), words[-1] == "alike")
        self.assertGreater(min(words.count("alike"), words.count("parts")), 10)

    def test_a_show_and_a_run(self):
        for book in SAMPLES[:3]:
            for memory in memories_of(book):
                self.check_beside(book, ("show", memory), book, ("run",))

    def test_two_shows(self):
        for book in SAMPLES[:5]:
            for one in machines_of(book):
                for other in machines_of(book)[::2]:
                    self.check_beside(book, one, book, other)

    def test_two_runs_of_one_book(self):
        for book in SAMPLES:
            answer = beside(book, ("run",), book, ("run",))
            self.assertEqual(answer, ("alike", tuple(((store, ()), (store, ())) for store in book.stores)))

    def test_two_books_of_which_one_deed_differs(self):
        book = Book(FLIP)
        for elder, later in (("say 1", "say 2"), ("add b 1", "add b 0"), ("if a = b", "if b = a"),
                             ("if a = b", "if a = 0"),
                             ("  add a 1\n  add b 1", "  add b 1\n  add a 1"), ("    say 1", "    say 1\n  say b"),
                             ("add b 1", "add b 1\n  if a != 0\n    if a = 0\n      say 1")):
            newer = Book(FLIP.replace(elder, later))
            self.assertNotEqual(newer, book)
            word = self.check_beside(book, ("run",), newer, ("run",))
            self.assertEqual(word, "alike" if later[:8] in ("if b = a", "add b 1\n") else "parts")
            for memory in memories_of(book):
                self.check_beside(book, ("run",), newer, ("show", memory))
                self.check_beside(newer, ("show", memory), book, ("show", memory))

    def test_a_book_and_the_book_in_which_its_blind_deeds_are_taught(self):
        for book in SAMPLES:
            blind = tuple(sorted(row[0] for row in book.deeds if row[2]))
            taught = book.taught(blind)
            self.assertEqual(self.check_beside(book, ("run",), taught, ("run",)), "alike")
            self.check_beside(book, ("show", ()), taught, ("show", ()))
            self.check_beside(book, ("show", all_kept(book)), taught, ("show", all_kept(book)))

    def test_books_with_other_groups_and_other_words_of_waking(self):
        book = Book(lined("key a 2", "key b 2", "group g a b", "deed d 1", "  set a 1", "deed e 1", "  say b"))
        for head in ("deed e 1", "deed e 1 blind", "deed e 1 when a", "deed e 1 blind when b"):
            newer = Book(lined("key a 2", "key b 2", "deed d 1", "  set a 1", head, "  say b"))
            self.check_beside(book, ("run",), newer, ("run",))
            self.check_beside(book, ("show", A_ROW), newer, ("show", A_ROW))

    def test_with_all_keys_remembered_a_show_without_blind_deeds_is_true(self):
        for book in SAMPLES:
            if is_without_blind_deeds(book):
                self.assertIs(is_true(book, all_kept(book)), True)

    def test_rows_of_up_to_three_letters_by_ran_and_shown(self):
        for book in SAMPLES[:4]:
            for memory in memories_of(book):
                answer = beside(book, ("run",), book, ("show", memory))
                lengths = [length for length in range(4) for row in product(book.letters, repeat=length)
                           for store in book.stores if ran(book, store, row)[0] != shown(book, store, memory, row)[0]]
                self.assertEqual(min(lengths) if lengths else None, len(answer[2]) if answer[0] == "parts" else None)

    def test_tables_are_ascending_and_have_each_store_beside_itself(self):
        book = Book(lined("key a 2", "key b 2", "deed put 1", "  set b 1", "deed look 1", "  say b"))
        word, table = beside(book, ("run",), book, ("show", (("b", "row"),)))
        self.assertEqual(word, "alike")
        self.assertEqual(list(table), sorted(set(table)))
        self.assertEqual(len(table), 8)
        for store in book.stores:
            self.assertIn(((store, ()), (store, ())), table)
            self.assertIn(((store[:1] + (1,), ()), (store, (("b", 1),))), table)

    def test_by_the_names_of_the_arguments(self):
        book = Book(PAIR)
        answer = beside(other=("show", ()), newer=book, one=("run",), book=book)
        self.assertTrue(shows_beside(value=answer, other=("show", ()), newer=book, one=("run",), book=book))
        self.assertIs(is_true(memory=(), book=book), False)
        self.assertEqual(parted(memory=(), book=book), (("put", 0),))


class Arguments(unittest.TestCase):
    def check_both(self, error, value, book, one, newer, other):
        check_refused(self, error, value, beside, book, one, newer, other)
        check_refused(self, error, value, shows_beside, book, one, newer, other, ("alike", ()))

    def test_bad_machines(self):
        book = three_keys()
        for value in WRONG_MACHINES:
            self.check_both(BadMachine, value, book, value, book, ("run",))
            self.check_both(BadMachine, value, book, ("run",), book, value)

    def check_unlike(self, book, one, newer, other):
        for call in (beside, lambda *arguments: shows_beside(*arguments, None)):
            with self.assertRaises(Unlike) as caught:
                call(book, one, newer, other)
            self.assertIs(caught.exception.value, newer)

    def test_unlike_books(self):
        text = lined("key a 2", "may m 3", "deed put 2", "  set a it", "deed look 1", "  say a")
        for elder, later in (("key a 2", "key a 3"), ("key a 2", "may a 2"), ("may m 3", "key m 3"), ("may m", "may n"),
                             ("key a 2\nmay m 3", "may m 3\nkey a 2"), ("may m 3", "may m 3\nkey b 2"),
                             ("\nmay m 3", ""), ("put 2", "put 1"), ("put", "push"), ("look", "see"),
                             ("deed look 1\n  say a", "deed look 1\n  say a\ndeed more 1\n  end"),
                             ("\ndeed look 1\n  say a", ""),
                             ("deed put 2\n  set a it\ndeed look 1\n  say a",
                              "deed look 1\n  say a\ndeed put 2\n  end")):
            book, newer = Book(text), Book(text.replace(elder, later))
            self.check_unlike(book, ("run",), newer, ("run",))
            self.check_unlike(newer, ("run",), book, ("show", ()))

    def test_unlike_stands_between_the_two_machines(self):
        book, newer = Book(PAIR), Book(SLY)
        self.check_unlike(book, ("run",), newer, ("no",))
        self.check_unlike(book, ("show", ()), newer, None)
        for value in (("no",), ("show", (("c", "row"),)), None):
            self.check_both(BadMachine, value, book, value, newer, ("run",))
            self.check_both(BadMachine, value, book, value, book, ("no",))

    def test_each_machine_goes_by_its_own_book(self):
        book = Book(lined("key a 2", "deed put 1 blind", "  set a 1"))
        self.assertEqual(beside(book, ("show", ()), book.taught(("put",)), ("show", A_ROW))[0], "alike")

    def test_bad_memories(self):
        for value in WRONG_MEMORIES:
            check_refused(self, BadMemory, value, is_true, three_keys(), value)
            check_refused(self, BadMemory, value, parted, three_keys(), value)


class Parted(unittest.TestCase):
    def test_letters_by_which_alone_run_and_show_part(self):
        for book in SAMPLES:
            for memory in memories_of(book):
                step = parting(book, ("run",), book, ("show", memory))
                letters = [letter for letter in book.letters
                           if any(step(pair, letter)[0] for pair in first_pairs(book))]
                self.assertTrue(same(parted(book, memory), tuple(sorted(letters))))

    def test_they_are_ascending_by_the_names(self):
        book = Book(lined("key a 3", "deed z 2", "  set a it + 1", "  say a", "deed y 1", "  say a", "deed b 3",
                          "  set a it", "  say a"))
        self.assertEqual(parted(book, ()), (("b", 0), ("b", 1), ("b", 2), ("z", 0), ("z", 1)))
        self.assertEqual(parted(book, (("a", "deed"),)), ())
        self.assertEqual(parted(book, A_ROW), ())

    def test_some_store_is_enough(self):
        book = Book(lined("key a 3", "key b 3", "deed d 1", "  set a 1", "  if b = 2", "    if a = 2", "      say 9"))
        self.assertEqual(parted(book, ()), (("d", 0),))

    def test_a_show_that_parts_later_can_part_by_no_letter_alone(self):
        self.assertEqual(parted(Book(FLIP), A_ROW), ())
        self.assertIs(is_true(Book(FLIP), A_ROW), False)

    def test_many_states_do_not_matter(self):
        book = Book(lined("key a 3", "key b 3", "key c 3", "key d 2", "deed v 3", "  set a it", "deed w 3",
                          "  set b it",
                          "deed x 1", "  add c 1", "deed y 1", "  add d 1", "  say d"))
        self.assertEqual(parted(book, (("a", "row"), ("b", "row"), ("c", "row"))), (("y", 0),))
        self.assertEqual(parted(book, all_kept(book)), ())


class Values(unittest.TestCase):
    """What shows_beside takes, and what it does not."""

    def check_shown(self, expected, book, memory, value):
        self.assertIs(shows_beside(book, ("run",), book, ("show", memory), value), expected, value)

    def test_values_of_other_kinds(self):
        book = Book(FLIP)
        for memory in ((), A_ROW):
            for value in ANY_VALUES + (
                "alike", "parts", ("alike",), ("parts",), ("alike", ()), ("parts", ()), ("parts", (), ()),
                ("alike", None), ("alike", [], []), ("parts", (0, 0), ()), ("parts", None, None), ("parts", (0, 0)),
                ("table", ()), ("alike", (None,)), ("alike", ((),)), ("alike", ((), ())), ("alike", ("a", 1)),
                ("alike", ({}, [])), ("alike", nested(30)), ("parts", nested(30), nested(30)), nested(30),
                (True, ()), (["alike"], ()), ("alike", {}), ("alike", "alike"), ("parts", (0, 0), "flip"),
            ):
                self.check_shown(False, book, memory, value)

    def test_each_change_of_a_table(self):
        book = Book(lined("key a 2", "may m 2", "deed put 1", "  set m 1", "deed look 1", "  if has m", "    say m"))
        memory = (("m", "row"),)
        answer = beside(book, ("run",), book, ("show", memory))
        self.assertEqual(answer[0], "alike")
        self.check_shown(True, book, memory, answer)
        values = [value for value in changed(answer) if not same(value, answer)]
        self.assertGreater(len(values), 1000)
        for value in values:
            self.check_shown(False, book, memory, value)

    def test_each_change_of_a_row(self):
        for book, memory in ((Book(FLIP), A_ROW), (Book(PAIR), ())):
            step = parting(book, ("run",), book, ("show", memory))
            answer = beside(book, ("run",), book, ("show", memory))
            for value in changed(answer):
                right = is_right_row(book, value, "parts", lambda store: ((store, ()), (store, ())), step, True)
                self.check_shown(right, book, memory, value)

    def test_changes_of_a_row_at_each_place(self):
        book = Book(FLIP)
        flip, look = ("flip", 0), ("look", 0)
        self.check_shown(True, book, A_ROW, ("parts", (0, 0), (flip, look)))
        for value in (
            ("parts", (0, 0), (look, flip)), ("parts", (0, 0), (flip,)), ("parts", (0, 0), (look,)),
            ("parts", (0, 0), (flip, look, look)), ("parts", (0, 0), (flip, look, flip)),
            ("parts", (0, 0), (flip, flip, look)), ("parts", (0, 0), (flip, look, flip, look)), ("parts", (0, 0), ()),
            ("parts", (0, 0), [flip, look]), ("parts", [0, 0], (flip, look)), ("parts", (0, False), (flip, look)),
            ("parts", (False, 0), (flip, look)), ("parts", (0,), (flip, look)), ("parts", (0, 0, 0), (flip, look)),
            ("parts", (0, 2), (flip, look)), ("parts", (0, -1), (flip, look)), ("parts", (flip, look), (0, 0)),
            ("parts", (0, 0), (flip, ("look", False))), ("parts", (0, 0), (("flip", False), look)),
            ("parts", (0, 0), (["flip", 0], look)), ("parts", (0, 0), (flip, ["look", 0])),
            ("parts", (0, 0), (flip, "look")), ("parts", (0, 0), (flip, ("look", 1))),
            ("parts", (0, 0), (flip, ("see", 0))), ("parts", (0, 0), (flip, None)), ("parts", (0, 0), (flip, look), ()),
            ("part", (0, 0), (flip, look)), ("alike", (0, 0), (flip, look)), ("harms", (0, 0), (flip, look)),
            (("parts",), (0, 0), (flip, look)), (None, (0, 0), (flip, look)), ["parts", (0, 0), (flip, look)],
            ("parts", (flip, look)), ((0, 0), (flip, look)), ("alike", ()),
        ):
            self.check_shown(False, book, A_ROW, value)

    def test_longer_rows_that_are_right(self):
        book = Book(FLIP)
        flip, look = ("flip", 0), ("look", 0)
        for store in book.stores:
            for ahead in ((), (flip, flip), (flip, flip) * 40):
                self.check_shown(True, book, A_ROW, ("parts", store, ahead + (flip, look)))
                self.check_shown(True, book, A_ROW, ("parts", store, (look,) + ahead + (flip, look)))

    def test_greater_closed_tables(self):
        book = Book(lined("key a 2", "key b 2", "deed put 1", "  set b 1", "deed look 1", "  say b"))
        memory = (("a", "row"), ("b", "row"))
        word, table = beside(book, ("run",), book, ("show", memory))
        # What is remembered of a is nothing that a row leads to, but such states are closed, too.
        more = tuple(((store, ()), (store, left)) for store in book.stores for left in ((("a", 1),), (("a", 0),)))
        behind = tuple(((store[:1] + (1,), ()), (store, left + (("b", 1),))) for (store, _), (_, left) in more)
        greater = tuple(sorted(set(table + more + behind)))
        self.check_shown(True, book, memory, (word, table))
        self.check_shown(True, book, memory, (word, greater))
        self.check_shown(False, book, memory, (word, tuple(sorted(set(table + more)))))
        self.check_shown(False, book, memory, (word, greater[::-1]))
        self.check_shown(False, book, memory, (word, greater + greater[-1:]))
        self.check_shown(False, book, memory, (word, greater[1:]))
        self.check_shown(False, book, memory, (word, ()))

    def test_tables_of_machines_that_part(self):
        book = Book(FLIP)
        step = parting(book, ("run",), book, ("show", ()))
        self.assertEqual(explored(first_pairs(book), book.letters, step)[0], None)
        self.check_shown(False, book, A_ROW, beside(book, ("run",), book, ("show", ())))
        self.check_shown(False, book, (), beside(book, ("run",), book, ("show", A_ROW)))
        pairs = tuple(((store, ()), (store, left)) for store in book.stores for left in ((), (("a", 0),), (("a", 1),)))
        self.check_shown(False, book, A_ROW, ("alike", pairs))

    def test_left_out_states_of_stores(self):
        book = Book(lined("key a 2", "deed look 1", "  say a"))
        pairs = tuple(((store, ()), (store, ())) for store in book.stores)
        self.check_shown(True, book, (), ("alike", pairs))
        self.check_shown(False, book, (), ("alike", pairs[:1]))
        self.check_shown(False, book, (), ("alike", pairs[1:]))
        self.check_shown(False, book, (), ("alike", ()))

    def test_states_of_the_other_machine(self):
        book = Book(lined("key a 2", "deed look 1", "  say 1"))
        pairs = tuple(((store, ()), (store, ())) for store in book.stores)
        kept = (((0,), ()), ((0,), (("a", 1),)))
        self.check_shown(True, book, A_ROW, ("alike", (pairs[0], kept, pairs[1])))
        self.check_shown(False, book, (("a", "deed"),), ("alike", (pairs[0], kept, pairs[1])))
        self.check_shown(False, book, (), ("alike", (pairs[0], kept, pairs[1])))
        self.assertIs(shows_beside(book, ("show", A_ROW), book, ("run",), ("alike", (pairs[0], kept, pairs[1]))), False)


if __name__ == "__main__":
    unittest.main()
