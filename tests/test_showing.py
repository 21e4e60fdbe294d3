"""Point 6: shows, what they remember and forget, and what blind deeds within them do."""

import unittest

from onlytell.books import Book
from onlytell.errors import BadMemory, BadRow, BadStore
from onlytell.running import ran
from onlytell.showing import shown
from tests.helpers import check_refused, lined, same, three_keys
from tests.samples import (
    BLIND_WITHIN, FLIP, PAIR, SAMPLES, WRONG_MEMORIES, WRONG_ROWS, WRONG_STORES, all_kept, is_refused,
    is_without_blind_deeds, memories_of,
)

A_DEED, A_ROW = (("a", "deed"),), (("a", "row"),)
M_DEED, M_ROW = (("m", "deed"),), (("m", "row"),)


class Shows(unittest.TestCase):
    def check_show(self, book, store, memory, row, tellings, left, base=None):
        """That a show tells this and remembers this; the base stays if no other one is given."""
        with self.subTest(store=store, memory=memory, row=row):
            result = shown(book, store, memory, row)
            self.assertTrue(same(result, (tellings, store if base is None else base, left)), result)

    def check_one(self, lines, store, memory, telling, left, base=None):
        """That the show of a deed of these statements, with the keys a, m and b, does so."""
        book = Book(lined("key a 3", "may m 3", "key b 2", "group g a m", "deed d 1", *["  " + line for line in lines]))
        with self.subTest(lines=lines):
            self.check_show(book, store, memory, (("d", 0),), (telling,), left, base)


class Remembering(Shows):
    def test_set(self):
        lines = ["set a 2", "say a", "set a 1", "say a + b"]
        forgotten = (("set", "a", 2), ("say", 0), ("set", "a", 1), ("say", 1))
        remembered = (("set", "a", 2), ("say", 2), ("set", "a", 1), ("say", 2))
        self.check_one(lines, (0, 0, 1), (), forgotten, ())
        self.check_one(lines, (0, 0, 1), (("b", "row"), ("m", "deed")), forgotten, ())
        self.check_one(lines, (0, 0, 1), A_DEED, remembered, ())
        self.check_one(lines, (0, 0, 1), A_ROW, remembered, (("a", 1),))

    def test_set_to_the_worth_that_it_has(self):
        self.check_one(["set a 1"], (1, 0, 0), A_ROW, (("set", "a", 1),), (("a", 1),))
        self.check_one(["set a 1"], (1, 0, 0), A_DEED, (("set", "a", 1),), ())

    def test_add(self):
        lines = ["add a 2", "add a 2", "say a"]
        adds = (("add", "a", 2), ("add", "a", 2))
        self.check_one(lines, (1, 0, 0), (), adds + (("say", 1),), ())
        self.check_one(lines, (1, 0, 0), A_DEED, adds + (("say", 2),), ())
        self.check_one(lines, (1, 0, 0), A_ROW, adds + (("say", 2),), (("a", 2),))

    def test_drop(self):
        lines = ["drop m", "if has m", "  say m", "else", "  say 9"]
        for worth in range(3):
            self.check_one(lines, (0, worth, 0), (), (("drop", "m"), ("say", worth)), ())
            self.check_one(lines, (0, worth, 0), M_DEED, (("drop", "m"), ("say", 9)), ())
            self.check_one(lines, (0, worth, 0), M_ROW, (("drop", "m"), ("say", 9)), (("m", -1),))

    def test_a_drop_that_is_forgotten_can_be_told_twice(self):
        self.check_one(["drop m", "drop m"], (0, 1, 0), (), (("drop", "m"), ("drop", "m")), ())
        for memory in (M_DEED, M_ROW):
            self.check_one(["drop m", "drop m"], (0, 1, 0), memory, (("refused", ("d",), "lacks"),), ())
            self.check_one(["drop m", "add m 1"], (0, 1, 0), memory, (("refused", ("d",), "lacks"),), ())

    def test_a_key_that_is_gone_in_the_base(self):
        lines = ["set m 2", "if has m", "  say m"]
        self.check_one(lines, (0, -1, 0), (), (("set", "m", 2),), ())
        self.check_one(lines, (0, -1, 0), M_DEED, (("set", "m", 2), ("say", 2)), ())
        self.check_one(lines, (0, -1, 0), M_ROW, (("set", "m", 2), ("say", 2)), (("m", 2),))
        self.check_one(["set m 2", "add m 2"], (0, -1, 0), (), (("refused", ("d",), "lacks"),), ())
        self.check_one(["set m 2", "add m 2"], (0, -1, 0), M_ROW, (("set", "m", 2), ("add", "m", 2)), (("m", 1),))

    def test_each_goes_by_what_is_read(self):
        lines = ["drop m", "each g", "  say here"]
        self.check_one(lines, (1, 2, 0), (), (("drop", "m"), ("say", 1), ("say", 2)), ())
        self.check_one(lines, (1, 2, 0), M_DEED, (("drop", "m"), ("say", 1)), ())
        lines = ["set m 2", "each g", "  say here"]
        self.check_one(lines, (1, -1, 0), (), (("set", "m", 2), ("say", 1)), ())
        self.check_one(lines, (1, -1, 0), M_ROW, (("set", "m", 2), ("say", 1), ("say", 2)), (("m", 2),))

    def test_says_and_tests_change_nothing(self):
        for memory in ((), A_ROW, M_DEED):
            self.check_one(["say a + 1", "if a = 2", "  say 5"], (2, -1, 0), memory, (("say", 3), ("say", 5)), ())

    def test_what_is_remembered_is_ascending_by_the_keys(self):
        book = Book(lined("key z 2", "may m 2", "key a 2", "deed d 1", "  set z 1", "  set a 1", "  drop m"))
        self.check_show(book, (0, 0, 0), all_kept(book), (("d", 0),),
                        ((("set", "z", 1), ("set", "a", 1), ("drop", "m")),), (("a", 1), ("m", -1), ("z", 1)))


class Rows(Shows):
    def test_keys_are_remembered_to_the_end_of_the_letter_or_of_the_row(self):
        book = Book(lined("key a 3", "deed put 3", "  set a it", "  say a", "deed grow 1", "  add a 1", "deed look 1",
                          "  say a"))
        row = (("put", 2), ("look", 0), ("grow", 0), ("grow", 0), ("look", 0))
        put, grow = ("set", "a", 2), (("add", "a", 1),)
        self.check_show(book, (1,), (), row, ((put, ("say", 1)), (("say", 1),), grow, grow, (("say", 1),)), ())
        self.check_show(book, (1,), A_DEED, row, ((put, ("say", 2)), (("say", 1),), grow, grow, (("say", 1),)), ())
        self.check_show(book, (1,), A_ROW, row, ((put, ("say", 2)), (("say", 2),), grow, grow, (("say", 1),)),
                        (("a", 1),))

    def test_the_empty_row(self):
        for book in SAMPLES:
            for store in book.stores:
                for memory in memories_of(book):
                    self.check_show(book, store, memory, (), (), ())

    def test_shows_of_books_without_blind_deeds_leave_the_base(self):
        for book in SAMPLES:
            if is_without_blind_deeds(book):
                for store in book.stores:
                    for memory in memories_of(book):
                        self.assertEqual(shown(book, store, memory, book.letters * 3)[1], store)

    def test_with_all_keys_remembered_a_show_without_blind_deeds_is_a_run(self):
        for book in SAMPLES:
            if is_without_blind_deeds(book):
                row = book.letters[::-1] + book.letters
                for store in book.stores:
                    tellings, base, left = shown(book, store, all_kept(book), row)
                    behind = dict(zip([row[0] for row in book.key_rows], store))
                    behind.update(left)
                    self.assertTrue(same((tellings, tuple(behind.values())), ran(book, store, row)))


class Waking(Shows):
    BOOK = Book(lined("key a 3", "deed put 3", "  set a it", "  set a it", "deed grow 1", "  add a 1", "  add a 2",
                      "deed one 3 when a", "  say it"))

    def test_by_what_is_read_ahead_of_the_statement(self):
        for it in range(3):
            put, woken = ("set", "a", it), (("say", it),)
            for worth in range(3):
                twice = (put,) + woken + (put,) + woken if it != worth else (put, put)
                once = (put,) + woken + (put,) if it != worth else (put, put)
                self.check_show(self.BOOK, (worth,), (), (("put", it),), (twice,), ())
                self.check_show(self.BOOK, (worth,), A_DEED, (("put", it),), (once,), ())
                self.check_show(self.BOOK, (worth,), A_ROW, (("put", it),), (once,), (("a", it),))

    def test_in_later_letters(self):
        row = (("put", 1), ("put", 1))
        put, woken = ("set", "a", 1), ("say", 1)
        self.check_show(self.BOOK, (0,), (), row, ((put, woken, put, woken),) * 2, ())
        self.check_show(self.BOOK, (0,), A_DEED, row, ((put, woken, put),) * 2, ())
        self.check_show(self.BOOK, (0,), A_ROW, row, ((put, woken, put), (put, put)), (("a", 1),))

    def test_by_an_add(self):
        for worth in range(3):
            more, most = (worth + 1) % 3, (worth + 2) % 3
            forgotten = (("add", "a", 1), ("say", more), ("add", "a", 2), ("say", most))
            remembered = (("add", "a", 1), ("say", more), ("add", "a", 2), ("say", worth))
            self.check_show(self.BOOK, (worth,), (), (("grow", 0),), (forgotten,), ())
            self.check_show(self.BOOK, (worth,), A_ROW, (("grow", 0),), (remembered,), (("a", worth),))

    def test_of_a_key_that_is_gone_in_the_base(self):
        book = Book(lined("may m 2", "deed put 1", "  set m 1", "  set m 1", "deed one 2 when m", "  say it"))
        put, woken = ("set", "m", 1), ("say", 1)
        self.check_show(book, (-1,), (), (("put", 0),), ((put, woken, put, woken),), ())
        self.check_show(book, (-1,), M_ROW, (("put", 0),), ((put, woken, put),), (("m", 1),))


class Refusals(Shows):
    BOOK = Book(lined("key a 3", "key b 2", "deed top 2", "  set b 1", "  if it = 1", "    set a 1", "  try low 0",
                      "    say a", "deed both 1", "  set a 1", "  ask low 0", "deed low 1", "  set a 2", "  say a",
                      "  refuse no"))

    def test_what_is_remembered_becomes_what_it_was(self):
        refused = ("refused", ("low",), "no")
        told = (("set", "b", 1), refused, ("say", 0))
        self.check_show(self.BOOK, (0, 0), A_ROW, (("top", 0),), (told,), ())
        self.check_show(self.BOOK, (0, 0), (("a", "row"), ("b", "row")), (("top", 0),), (told,), (("b", 1),))
        told = (("set", "b", 1), ("set", "a", 1), refused, ("say", 1))
        self.check_show(self.BOOK, (0, 0), A_ROW, (("top", 1),), (told,), (("a", 1),))
        self.check_show(self.BOOK, (0, 0), A_DEED, (("top", 1),), (told,), ())
        told = (("set", "b", 1), ("set", "a", 1), refused, ("say", 2))
        self.check_show(self.BOOK, (2, 0), (), (("top", 1),), (told,), ())

    def test_what_elder_letters_remembered_stays(self):
        row = (("top", 1), ("both", 0), ("low", 0))
        tellings, base, left = shown(self.BOOK, (0, 0), A_ROW, row)
        self.assertEqual(tellings[1:], ((("refused", ("both", "low"), "no"),), (("refused", ("low",), "no"),)))
        self.assertEqual((base, left), ((0, 0), (("a", 1),)))

    def test_a_refused_letter_of_a_show_without_blind_deeds_leaves_nothing(self):
        many = 0
        for book in SAMPLES:
            if is_without_blind_deeds(book):
                for store in book.stores:
                    for memory in memories_of(book):
                        for letter in book.letters:
                            for row in [(letter,)] + [(other, letter) for other in book.letters[:2]]:
                                tellings, base, left = shown(book, store, memory, row)
                                if is_refused(tellings[-1], letter):
                                    self.assertEqual((base, left), shown(book, store, memory, row[:-1])[1:])
                                    many += 1
        self.assertGreater(many, 100)

    def test_the_200th_statement(self):
        keys = ("key a 2", "key b 2", "key c 2", "key d 2", "group g a b c d")
        # 1 + 4 * (1 + 4 * 4) statements are 69; 2 * 70 are 140, and 60 are left.
        book = Book(lined(*keys, "deed top 1", *["  ask many 0"] * 2, "  try many 0", "deed many 1", "  each g",
                          "    each g", *["      say 1"] * 4))
        for memory in ((), all_kept(book)):
            (telling,), base, left = shown(book, (0, 0, 0, 0), memory, (("top", 0),))
            self.assertEqual(telling, (("say", 1),) * 128 + (("refused", ("many",), "long"),))


class Blind(Shows):
    """A blind deed within shown ones, and the other way about."""

    BOOK = Book(lined(
        "key a 3", "key b 2",
        "deed asks 1", "  set a 1", "  ask sly 0", "  say a", "  say b",
        "deed fails 1", "  set a 1", "  ask sly 0", "  refuse no",
        "deed sly 1 blind", "  say a", "  set b 1", "  ask low 0",
        "deed low 1", "  say a", "  set a 2",
    ))

    def test_a_blind_letter_is_run(self):
        told = (("say", 0), ("set", "b", 1), ("say", 0), ("set", "a", 2))
        for memory in memories_of(self.BOOK):
            self.check_show(self.BOOK, (0, 0), memory, (("sly", 0),), (told,), (), (2, 1))

    def test_a_blind_letter_reads_the_base_alone(self):
        book = Book(lined("key a 3", "deed put 1", "  set a 2", "deed sly 1 blind", "  say a", "  add a 1"))
        for memory, left in (((), ()), (A_DEED, ()), (A_ROW, (("a", 2),))):
            tellings = ((("set", "a", 2),), (("say", 0), ("add", "a", 1)), (("say", 1), ("add", "a", 1)))
            self.check_show(book, (0,), memory, (("put", 0), ("sly", 0), ("sly", 0)), tellings, left, (2,))

    def test_asked_by_a_shown_one(self):
        told = (("set", "a", 1), ("say", 0), ("set", "b", 1), ("say", 0), ("set", "a", 2))
        for memory, says, left in (
            ((), (2, 1), ()), (A_DEED, (1, 1), ()), (A_ROW, (1, 1), (("a", 1),)),
            ((("a", "row"), ("b", "row")), (1, 1), (("a", 1),)), ((("b", "row"),), (2, 1), ()),
        ):
            more = tuple(("say", number) for number in says)
            self.check_show(self.BOOK, (0, 0), memory, (("asks", 0),), (told + more,), left, (2, 1))

    def test_what_is_remembered_hides_what_it_did(self):
        book = Book(lined("key a 3", "deed top 1", "  set a 1", "  ask sly 0", "  say a", "deed sly 1 blind",
                          "  set a 2"))
        told = (("set", "a", 1), ("set", "a", 2))
        self.check_show(book, (0,), (), (("top", 0),), (told + (("say", 2),),), (), (2,))
        self.check_show(book, (0,), A_ROW, (("top", 0),), (told + (("say", 1),),), (("a", 1),), (2,))

    def test_it_stays_when_the_shown_one_is_refused(self):
        told = (("refused", ("fails",), "no"),)
        for memory in memories_of(self.BOOK):
            self.check_show(self.BOOK, (0, 0), memory, (("fails", 0),), (told,), (), (2, 1))

    def test_deeds_below_a_blind_one_are_run(self):
        # low is not blind, but sly asks it; alone it is shown.
        self.check_show(self.BOOK, (0, 0), A_ROW, (("low", 0), ("sly", 0), ("low", 0)), (
            (("say", 0), ("set", "a", 2)), (("say", 0), ("set", "b", 1), ("say", 0), ("set", "a", 2)),
            (("say", 2), ("set", "a", 2)),
        ), (("a", 2),), (2, 1))

    def test_a_refused_blind_deed_leaves_the_base(self):
        book = Book(lined("key a 3", "key b 2", "deed top 1", "  set b 1", "  try sly 0", "    say a + b",
                          "deed asks 1", "  set b 1", "  ask sly 0", "deed sly 1 blind", "  set a 2", "  ask low 0",
                          "  refuse no", "deed low 1", "  set b 1", "  set a 1"))
        refused = ("refused", ("sly",), "no")
        b_row = (("b", "row"),)
        self.check_show(book, (0, 0), b_row, (("top", 0),), ((("set", "b", 1), refused, ("say", 1)),), (("b", 1),))
        self.check_show(book, (0, 0), (), (("top", 0),), ((("set", "b", 1), refused, ("say", 0)),), ())
        self.check_show(book, (0, 0), b_row, (("asks", 0),), ((("refused", ("asks", "sly"), "no"),),), ())
        self.check_show(book, (0, 0), b_row, (("sly", 0),), ((refused,),), ())

    def test_a_blind_deed_that_tries_a_deed_that_is_not_blind(self):
        book = Book(lined("key a 3", "key b 2", "deed top 1", "  set a 1", "  ask sly 0", "  say a + b",
                          "deed sly 1 blind",
                          "  set b 1", "  try low 0", "    say a + b", "deed low 1", "  set b 0", "  set a 2",
                          "  refuse no"))
        told = (("set", "a", 1), ("set", "b", 1), ("refused", ("low",), "no"), ("say", 1))
        self.check_show(book, (0, 0), A_ROW, (("top", 0),), (told + (("say", 2),),), (("a", 1),), (0, 1))
        self.check_show(book, (0, 0), (), (("top", 0),), (told + (("say", 1),),), (), (0, 1))

    def test_a_blind_deed_that_wakes_a_deed_that_is_not_blind(self):
        book = Book(lined("key a 3", "key b 2", "deed top 1", "  set a 1", "  ask sly 0", "deed sly 1 blind",
                          "  set a 1",
                          "deed low 2 when a", "  say b", "  set b 1"))
        put, woken = ("set", "a", 1), (("say", 0), ("set", "b", 1))
        # First low is shown, then it is run, since sly gives another worth than the base has.
        self.check_show(book, (0, 0), (("a", "row"), ("b", "row")), (("top", 0),), ((put, *woken, put, *woken),),
                        (("a", 1), ("b", 1)), (1, 1))
        self.check_show(book, (1, 0), (("a", "row"), ("b", "row")), (("top", 0),), ((put, put),), (("a", 1),), (1, 0))

    def test_a_shown_deed_that_wakes_a_blind_one(self):
        book = Book(lined("key a 3", "key b 2", "deed top 1", "  set a 1", "  say b", "deed fails 1", "  set a 1",
                          "  refuse no", "deed sly 2 blind when a", "  say a", "  set b it"))
        woken = (("set", "a", 1), ("say", 0), ("set", "b", 1))
        for memory, left in (((), ()), (A_ROW, (("a", 1),)), ((("a", "deed"), ("b", "row")), ())):
            self.check_show(book, (0, 0), memory, (("top", 0),), (woken + (("say", 1),),), left, (0, 1))
            self.check_show(book, (0, 0), memory, (("fails", 0),), ((("refused", ("fails",), "no"),),), (), (0, 1))

    def test_a_woken_blind_deed_that_is_refused(self):
        book = Book(lined("key a 3", "key b 2", "deed top 1", "  set b 1", "  try put 0", "    say a + b", "deed put 1",
                          "  set a 1", "deed sly 2 blind when a", "  set b 1", "  refuse no"))
        told = (("set", "b", 1), ("refused", ("put", "sly"), "no"), ("say", 1))
        self.check_show(book, (0, 0), (("a", "row"), ("b", "row")), (("top", 0),), (told,), (("b", 1),))
        self.check_show(book, (0, 0), A_ROW, (("put", 0),), ((("refused", ("put", "sly"), "no"),),), ())

    def test_one_blind_deed_stays_and_another_one_is_taken_back(self):
        book = Book(lined("key a 2", "key b 2", "key c 2", "deed top 1", "  set c 1", "  ask one 0", "  ask two 0",
                          "deed one 1 blind", "  set a 1", "deed two 1 blind", "  set b 1", "  refuse no"))
        self.check_show(book, (0, 0, 0), all_kept(book), (("top", 0),), ((("refused", ("top", "two"), "no"),),), (),
                        (1, 0, 0))
        self.assertEqual(ran(book, (0, 0, 0), (("top", 0),))[1], (0, 0, 0))

    def test_a_blind_deed_within_a_refused_blind_one_is_taken_back(self):
        book = Book(lined("key a 2", "key b 2", "deed top 1", "  try one 0", "deed one 1 blind", "  ask two 0",
                          "  refuse no", "deed two 1 blind", "  set b 1"))
        self.check_show(book, (0, 0), (), (("top", 0),), ((("refused", ("one",), "no"),),), ())

    def test_each_and_has_within_a_blind_deed(self):
        book = Book(lined("may m 2", "may n 2", "group g m n", "deed top 1", "  drop m", "  set n 1", "  ask sly 0",
                          "deed sly 1 blind", "  each g", "    say here", "  if has n", "    say 9"))
        self.check_show(book, (0, -1), all_kept(book), (("top", 0),),
                        ((("drop", "m"), ("set", "n", 1), ("say", 0)),), (("m", -1), ("n", 1)))

    def test_in_a_run_a_blind_deed_is_as_any_other(self):
        for book in SAMPLES + (self.BOOK,):
            blind = tuple(sorted(row[0] for row in book.deeds if row[2]))
            for store in book.stores:
                row = book.letters + book.letters
                self.assertEqual(ran(book, store, row), ran(book.taught(blind), store, row))


class Arguments(unittest.TestCase):
    def test_bad_stores(self):
        for value in WRONG_STORES:
            check_refused(self, BadStore, value, shown, three_keys(), value, (), ())

    def test_bad_memories(self):
        for value in WRONG_MEMORIES:
            with self.subTest(value=value):
                check_refused(self, BadMemory, value, shown, three_keys(), (0, 0, 0), value, ())

    def test_bad_rows(self):
        for value, number in WRONG_ROWS:
            check_refused(self, BadRow, number, shown, three_keys(), (0, 0, 0), (), value)

    def test_the_sequence_of_the_errors(self):
        check_refused(self, BadStore, (0,), shown, three_keys(), (0,), (("a", "no"),), ("put",))
        check_refused(self, BadMemory, (("a", "no"),), shown, three_keys(), (0, 0, 0), (("a", "no"),), ("put",))

    def test_right_memories(self):
        for memory in memories_of(three_keys()):
            self.assertEqual(shown(three_keys(), (0, 0, 0), memory, ()), ((), (0, 0, 0), ()))

    def test_by_the_names_of_the_arguments(self):
        book = Book(FLIP)
        self.assertEqual(shown(row=(("look", 0),), memory=(), store=(0, 0), book=book), (((("say", 1),),), (0, 0), ()))

    def test_equal_calls_return_equal_results(self):
        for text in (FLIP, PAIR, BLIND_WITHIN):
            book, other = Book(text), Book(text)
            for memory in memories_of(book):
                for store in book.stores:
                    row = book.letters + book.letters
                    self.assertTrue(same(shown(book, store, memory, row), shown(other, store, memory, row)))


if __name__ == "__main__":
    unittest.main()
