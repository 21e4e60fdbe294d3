"""Point 16, the second half: whether a show reads of some keys what the run beside it has."""

import unittest
from itertools import combinations

from onlytell.beside import is_true
from onlytell.books import Book
from onlytell.errors import BadKeys, BadMemory, TooMany
from onlytell.looks import enough
from onlytell.running import ran
from onlytell.showing import shown
from onlytell.wishes import agree, shows_agree
from tests.helpers import ANY_VALUES, check_refused, lined, nested, same, three_keys
from tests.oracles import Walk, changed, explored, first_pairs
from tests.samples import (
    FLIP, PAIR, SAMPLES, SLY, WRONG_KEYS, WRONG_MEMORIES, all_kept, is_letters, is_one_of, is_without_blind_deeds,
    memories_of,
)
from tests.test_leads import read_in
from tests.test_searching import BOOK_1500, BOOK_1501

A_ROW, B_ROW = ("a", "row"), ("b", "row")
FLIPS, LOOK, PUT = ("flip", 0), ("look", 0), ("put", 0)

# Run and show always tell the same, but the show forgets what was done to a, which is never told.
QUIET = lined("key a 2", "key b 2", "deed put 1", "  set a 1", "deed look 1", "  say b")


def key_sets(book):
    names = sorted(row[0] for row in book.key_rows)
    return [keys for many in range(len(names) + 1) for keys in combinations(names, many)]


def agrees(book, keys, states):
    one, other = read_in(book, states[0]), read_in(book, states[1])
    return all(one[key] == other[key] for key in keys)


def disagreeing(book, memory, keys):
    """The step of run and show: sought if the two do not agree behind it."""
    run, show = Walk(book, ("run",)), Walk(book, ("show", memory))

    def step(states, letter):
        later = run.step(states[0], letter)[1], show.step(states[1], letter)[1]
        return not agrees(book, keys, later), later

    return step


def states_behind(book, memory, store, row):
    return (ran(book, store, row)[1], ()), shown(book, store, memory, row)[1:]


def is_right_row(book, memory, keys, value):
    """Whether the value is a right answer with "parts", as the document says it."""
    if type(value) is not tuple or len(value) != 3 or not same(value[0], "parts"):
        return False
    if not is_one_of(book.stores, value[1]) or not is_letters(book, value[2]):
        return False
    return not agrees(book, keys, states_behind(book, memory, value[1], value[2]))


class Agree(unittest.TestCase):
    def check_agree(self, book, memory, keys):
        """That the answer is one that `stepped` gives, and that it is shown; returns its word, or a length."""
        answer = agree(book, memory, keys)
        length, table = explored(first_pairs(book), book.letters, disagreeing(book, memory, keys))
        with self.subTest(book=book.text, memory=memory, keys=keys):
            if table is not None:
                self.assertTrue(same(answer, ("agree", table)), answer)
            else:
                self.assertEqual(len(answer[2]), length)
                self.assertTrue(is_right_row(book, memory, keys, answer))
            self.assertIs(shows_agree(book, memory, keys, answer), True)
            self.assertTrue(same(agree(Book(book.text), memory, keys), answer))
        return "agree" if table is not None else length

    def test_each_book(self):
        words = []
        for book in SAMPLES + (Book(QUIET),):
            for memory in memories_of(book):
                for keys in key_sets(book):
                    words.append(self.check_agree(book, memory, keys))
        self.assertGreater(min(words.count("agree"), words.count(1), words.count(2)), 10)

    def test_keys_that_agree_although_others_do_not(self):
        book = Book(FLIP)
        self.assertEqual(agree(book, (A_ROW,), ("a",))[0], "agree")
        word, store, row = agree(book, (A_ROW,), ("a", "b"))
        self.assertEqual((word, row), ("parts", (FLIPS,)))
        self.assertEqual(agree(book, (A_ROW,), ("b",))[0], "parts")
        self.assertEqual(agree(book, (A_ROW, B_ROW), ("a", "b"))[0], "agree")

    def test_the_table_has_all_pairs_that_can_be_reached(self):
        book = Book(lined("key a 2", "deed put 1", "  set a 1"))
        self.assertTrue(same(agree(book, (A_ROW,), ("a",)), ("agree", (
            (((0,), ()), ((0,), ())), (((1,), ()), ((0,), (("a", 1),))), (((1,), ()), ((1,), ())),
            (((1,), ()), ((1,), (("a", 1),)))))))

    def test_a_show_that_is_true_and_does_not_agree(self):
        book = Book(QUIET)
        self.assertIs(is_true(book, ()), True)
        answer = agree(book, (), ("a",))
        self.assertEqual((answer[0], answer[1][0], answer[2]), ("parts", 0, (PUT,)))
        self.assertEqual(agree(book, (), ("b",))[0], "agree")

    def test_a_show_that_agrees_and_is_not_true(self):
        # At the end of each letter both have the same; within it they do not.
        book = Book(lined("key a 2", "deed put 1", "  add a 1", "  say a", "  add a 1"))
        self.assertIs(is_true(book, ()), False)
        self.assertEqual(agree(book, (), ("a",))[0], "agree")

    def test_whatever_both_tell(self):
        # They tell different things by the first letter, and go on.
        book = Book(lined("key a 2", "key b 2", "deed put 1", "  set a 1", "  say a", "deed two 1", "  set b 1"))
        memory = (B_ROW,)
        self.assertIs(is_true(book, memory), False)
        self.assertEqual(agree(book, memory, ("b",))[0], "agree")
        self.assertEqual(agree(book, memory, ("a", "b"))[0], "parts")

    def test_no_keys_at_all(self):
        for book in SAMPLES:
            for memory in memories_of(book):
                self.assertEqual(agree(book, memory, ())[0], "agree")

    def test_blind_deeds_read_the_base_but_the_keys_are_those_that_a_shown_deed_reads(self):
        book = Book(SLY)
        self.assertEqual(agree(book, (), ("a",))[0], "agree")
        self.assertEqual(agree(book.taught(("put",)), (), ("a",))[0], "parts")
        # The base has a changed by the blind deed, but what is remembered of a hides it.
        book = Book(lined("key a 3", "deed put 1", "  set a 1", "deed sly 1 blind", "  set a 2"))
        self.assertEqual(agree(book, (), ("a",))[2], (PUT,))
        word, store, row = agree(book, (A_ROW,), ("a",))
        self.assertEqual((word, row), ("parts", (PUT, ("sly", 0))))

    def test_keys_that_are_gone(self):
        book = Book(lined("may m 2", "deed off 1", "  drop m", "deed on 1", "  set m 0"))
        self.assertEqual(agree(book, (("m", "row"),), ("m",))[0], "agree")
        self.assertEqual(agree(book, (("m", "deed"),), ("m",))[0], "parts")

    def test_with_all_keys_remembered_a_show_without_blind_deeds_agrees(self):
        for book in SAMPLES:
            if is_without_blind_deeds(book):
                self.assertEqual(agree(book, all_kept(book), tuple(name for name, _ in all_kept(book)))[0], "agree")

    def test_what_enough_says_is_enough_to_agree_on_it(self):
        many = 0
        for book in SAMPLES + (Book(QUIET),):
            if is_without_blind_deeds(book):
                keys = enough(book)
                memory = tuple((key, "row") for key in keys)
                self.assertIs(is_true(book, memory), True)
                self.assertEqual(agree(book, memory, keys)[0], "agree")
                # Where one of them is left out, most shows do not agree on all.
                many += sum(agree(book, memory[:place] + memory[place + 1:],
                                  keys)[0] == "parts" for place in range(len(keys)))
        self.assertGreater(many, 5)

    def test_by_the_names_of_the_arguments(self):
        book = Book(FLIP)
        answer = agree(keys=("a",), memory=(A_ROW,), book=book)
        self.assertIs(shows_agree(value=answer, keys=("a",), memory=(A_ROW,), book=book), True)

    def test_errors_in_their_sequence(self):
        book = three_keys()
        for call, more in ((agree, ()), (shows_agree, (None,))):
            for value in WRONG_MEMORIES:
                check_refused(self, BadMemory, value, call, book, value, None, *more)
            for value in WRONG_KEYS:
                check_refused(self, BadKeys, value, call, book, (), value, *more)
            for keys in key_sets(book):
                call(book, (), keys, *more)


class ManyStates(unittest.TestCase):
    def test_both_sides_of_1500_pairs(self):
        for book, many in ((BOOK_1500, 1500), (BOOK_1501, 1501)):
            memory, keys = all_kept(book), ("a", "c", "d")
            table = explored(first_pairs(book), book.letters, disagreeing(book, memory, keys))[1]
            self.assertEqual(len(table), many)
            for chosen in (keys, ()):
                if many == 1500:
                    self.assertTrue(same(agree(book, memory, chosen), ("agree", table)))
                else:
                    check_refused(self, TooMany, 1500, agree, book, memory, chosen)
                self.assertIs(shows_agree(book, memory, chosen, ("agree", table)), True)
                self.assertIs(shows_agree(book, memory, chosen, ("agree", table[1:])), False)

    def test_a_row_that_comes_ahead_of_too_many_states(self):
        memory = tuple(part for part in all_kept(BOOK_1501) if part[0] != "a")
        word, store, row = agree(BOOK_1501, memory, ("a", "d"))
        self.assertEqual(word, "parts")
        self.assertTrue(is_right_row(BOOK_1501, memory, ("a", "d"), (word, store, row)))


class ShownAgree(unittest.TestCase):
    CASES = (
        (FLIP, (A_ROW,), ("a",)), (FLIP, (A_ROW,), ("b",)), (FLIP, (), ()), (QUIET, (), ("a", "b")), (SLY, (), ("a",)),
        (PAIR, (A_ROW, B_ROW), ("a", "b")),
    )

    def check_shown(self, expected, case, value):
        text, memory, keys = case
        self.assertIs(shows_agree(Book(text), memory, keys, value), expected, (case, value))

    def test_each_change_of_an_answer(self):
        for case in self.CASES:
            book = Book(case[0])
            answer = agree(book, *case[1:])
            for value in changed(answer):
                self.check_shown(same(value, answer) or is_right_row(book, *case[1:], value), case, value)

    def test_greater_closed_tables(self):
        book = Book(QUIET)
        memory, keys = (B_ROW,), ("b",)
        case = (QUIET, memory, keys)
        word, table = agree(book, memory, keys)
        self.check_shown(True, case, (word, table))
        # The run has changed b, and the show remembers it: no row leads there, but nothing leads out.
        more = tuple(((one, ()), ((0, 0), (("b", one[1]),))) for one in ((0, 1), (1, 1)))
        greater = tuple(sorted(table + more))
        self.check_shown(True, case, (word, greater))
        self.check_shown(False, case, (word, tuple(sorted(table + more[:1]))))
        self.check_shown(True, case, (word, tuple(sorted(table + more[1:]))))
        self.check_shown(False, case, (word, greater[::-1]))
        self.check_shown(False, case, (word, greater + greater[-1:]))
        # Such a member, too, must agree.
        wrong = tuple(((one, ()), ((0, 0), (("b", 1 - one[1]),))) for one in ((0, 1), (1, 1)))
        self.check_shown(False, case, (word, tuple(sorted(table + wrong))))
        self.check_shown(True, (QUIET, memory, ()), (word, tuple(sorted(table + wrong))))

    def test_members_that_do_not_agree_and_are_not_reached(self):
        book = Book(lined("key a 2", "deed back 1", "  set a 0"))
        case = (book.text, (A_ROW,), ("a",))
        word, table = agree(book, *case[1:])
        self.check_shown(True, case, (word, table))
        # From this one, both come to have 0.
        wrong = (((1,), ()), ((0,), ()))
        self.check_shown(False, case, (word, tuple(sorted(table + (wrong, (((0,), ()), ((0,), (("a", 0),))))))))
        self.check_shown(False, case, (word, tuple(sorted(set(table + (wrong,))))))

    def test_tables_that_lack_a_store(self):
        book = Book(lined("key a 2", "deed look 1", "  say a"))
        case = (book.text, (), ("a",))
        pairs = tuple(first_pairs(book))
        self.check_shown(True, case, ("agree", pairs))
        for table in (pairs[:1], pairs[1:], (), pairs[::-1], pairs * 2, list(pairs)):
            self.check_shown(False, case, ("agree", table))

    def test_states_of_run_and_show(self):
        case = (FLIP, (A_ROW,), ("a",))
        word, table = agree(Book(FLIP), *case[1:])
        self.check_shown(False, case, (word, tuple(sorted((other, one) for one, other in table))))
        for memory in memories_of(Book(FLIP)):
            self.check_shown(A_ROW in memory and B_ROW not in memory, (FLIP, memory, ("a",)), (word, table))

    def test_rows_longer_than_needed_and_the_empty_row(self):
        case = (FLIP, (), ("a",))
        for row, right in (((FLIPS,), True), ((LOOK, FLIPS), True), ((FLIPS, LOOK), True), ((FLIPS, FLIPS), False),
                           ((), False),
                           ((LOOK,), False), ((FLIPS,) * 3, True), ((FLIPS,) * 61, True), ((FLIPS,) * 60, False),
                           ([FLIPS], False), ((("flip", False),), False), ((["flip", 0],), False),
                           ((FLIPS, None), False),
                           (FLIPS, False), ((("flip", 1),), False), (None, False), ("flip", False)):
            for store in Book(FLIP).stores:
                self.check_shown(right, case, ("parts", store, row))
            for store in ((0, 2), (0,), (0, False), [0, 0], None, (0, 0, 0), (0, -1)):
                self.check_shown(False, case, ("parts", store, row))

    def test_values_of_other_kinds(self):
        for case in self.CASES:
            for value in ANY_VALUES + (
                "agree", "parts", ("agree",), ("parts",), ("agree", ()), ("parts", ()), ("parts", (), ()),
                ("agree", None),
                ("agree", (), ()), ("parts", (0, 0)), ("parts", (0, 0), ()), ("alike", ()), (None, ()), (True, ()),
                (["agree"], ()), ("agree", {}), ("agree", ((),)), ("agree", (None,)), ("agree", nested(30)),
                ("parts", nested(30), nested(30)), nested(30), ("parts", None, None), ("agree", "agree"),
                ("harms", (0, 0), (PUT,)),
            ):
                self.check_shown(False, case, value)


if __name__ == "__main__":
    unittest.main()
