"""Point 11: looks, the first unlike one, and which keys are enough to remember."""

import unittest

from onlytell.beside import is_true
from onlytell.books import Book
from onlytell.errors import BadLetter, BadMachine, BadMemory, BadRow, BadState, BadStore
from onlytell.looks import enough, first_unlike, looks
from onlytell.machines import stepped
from tests.helpers import check_refused, lined, same, three_keys
from tests.samples import (
    FLIP, PAIR, SAMPLES, WRONG_LETTERS, WRONG_MACHINES, WRONG_MEMORIES, WRONG_ROWS, WRONG_STORES, all_kept,
    is_without_blind_deeds, machines_of, memories_of,
)

KEYS = ("key a 3", "may m 3", "key b 2", "group g a m b")
RUN = ("run",)


class Looks(unittest.TestCase):
    def check_looks(self, book, machine, state, letter, expected):
        with self.subTest(machine=machine, state=state, letter=letter):
            found = looks(book, machine, state, letter)
            self.assertTrue(same(found, expected), found)

    def check_run(self, lines, store, expected, more=()):
        """The looks of a run of a deed with these statements, which begin in line 1; the input is 1."""
        book = Book(lined(*KEYS, "deed d 2", *["  " + line for line in lines], *more))
        found = tuple((line + 5, key, worth) for line, key, worth in expected)
        with self.subTest(lines=lines):
            self.check_looks(book, RUN, (store, ()), ("d", 1), found)

    def test_sums(self):
        self.check_run(["say 1"], (2, 1, 0), ())
        self.check_run(["say it + 1"], (2, 1, 0), ())
        self.check_run(["say a"], (2, 1, 0), ((1, "a", 2),))
        self.check_run(["say a + m"], (2, 1, 0), ((1, "a", 2), (1, "m", 1)))
        self.check_run(["say m + a"], (2, 1, 0), ((1, "m", 1), (1, "a", 2)))
        self.check_run(["say a + a"], (2, 1, 0), ((1, "a", 2), (1, "a", 2)))
        self.check_run(["say 1 + b", "say b + it"], (2, 1, 0), ((1, "b", 0), (2, "b", 0)))

    def test_sums_up_to_the_first_key_that_is_gone(self):
        self.check_run(["say m"], (2, -1, 0), ((1, "m", -1),))
        self.check_run(["say m + a"], (2, -1, 0), ((1, "m", -1),))
        self.check_run(["say a + m", "say a"], (2, -1, 0), ((1, "a", 2), (1, "m", -1)))
        self.check_run(["say m + m"], (2, -1, 0), ((1, "m", -1),))

    def test_tests(self):
        for sign in ("=", "!="):
            self.check_run([f"if a {sign} b", "  say m", "else", "  say m"], (1, 2, 1),
                           ((1, "a", 1), (1, "b", 1), (2 if sign == "=" else 4, "m", 2)))
            self.check_run([f"if b + a {sign} m + b", "  end"], (2, 1, 0),
                           ((1, "b", 0), (1, "a", 2), (1, "m", 1), (1, "b", 0)))
            self.check_run([f"if a {sign} m + b", "  end"], (2, -1, 0), ((1, "a", 2), (1, "m", -1)))
            self.check_run([f"if m {sign} a", "  end"], (2, -1, 0), ((1, "m", -1),))
            self.check_run([f"if 1 {sign} it", "  end"], (2, -1, 0), ())
        self.check_run(["if has m", "  end"], (2, 1, 0), ((1, "m", 1),))
        self.check_run(["if has m", "  end"], (2, -1, 0), ((1, "m", -1),))
        self.check_run(["if has a", "  end"], (2, -1, 0), ((1, "a", 2),))

    def test_lines_are_counted_with_else_and_with_all_lines_of_the_book(self):
        book = Book(lined("key a 2", "may m 2", "group g a m", "group h m a", "deed one 1", "  if a = 1", "    say a",
                          "  else", "    say a", "  say a", "deed two 1", "  say m"))
        self.check_looks(book, RUN, ((0, 1), ()), ("one", 0), ((6, "a", 0), (9, "a", 0), (10, "a", 0)))
        self.check_looks(book, RUN, ((1, 1), ()), ("one", 0), ((6, "a", 1), (7, "a", 1), (10, "a", 1)))
        self.check_looks(book, RUN, ((1, 1), ()), ("two", 0), ((12, "m", 1),))

    def test_set(self):
        self.check_run(["set a 1"], (2, 1, 0), ())
        self.check_run(["set a b + m"], (2, 1, 0), ((1, "b", 0), (1, "m", 1)))
        self.check_run(["set a m", "say a"], (2, -1, 0), ((1, "m", -1),))
        woken = ("deed e 1 when a", "  say b", "deed f 1 when m", "  end")
        self.check_run(["set a 1"], (1, 1, 0), ((1, "a", 1),), woken)
        self.check_run(["set a b + 1"], (2, 1, 0), ((1, "b", 0), (1, "a", 2), (3, "b", 0)), woken)
        self.check_run(["set m a"], (2, -1, 0), ((1, "a", 2), (1, "m", -1)), woken)
        self.check_run(["set b a"], (2, -1, 0), ((1, "a", 2),), woken)
        self.check_run(["set a m"], (2, -1, 0), ((1, "m", -1),), woken)

    def test_add_and_drop(self):
        self.check_run(["add a 1"], (2, 1, 0), ((1, "a", 2),))
        self.check_run(["add a b + a"], (2, 1, 0), ((1, "b", 0), (1, "a", 2), (1, "a", 2)))
        self.check_run(["add m a"], (2, -1, 0), ((1, "a", 2), (1, "m", -1)))
        self.check_run(["add a m"], (2, -1, 0), ((1, "m", -1),))
        self.check_run(["drop m", "say m"], (2, 1, 0), ((1, "m", 1), (2, "m", -1)))
        self.check_run(["drop m"], (2, -1, 0), ((1, "m", -1),))

    def test_what_has_been_set_is_looked_at(self):
        self.check_run(["set a 1", "add a 1", "say a"], (0, 0, 0), ((2, "a", 1), (3, "a", 2)))

    def test_each(self):
        self.check_run(["each g", "  say 1"], (2, 1, 0),
                       ((1, "a", 2), (1, "m", 1), (1, "b", 0), (1, "a", 2), (1, "m", 1), (1, "b", 0)))
        self.check_run(["each g", "  say here"], (2, 1, 0), (
            (1, "a", 2), (1, "m", 1), (1, "b", 0), (1, "a", 2), (2, "a", 2), (1, "m", 1), (2, "m", 1), (1, "b", 0),
            (2, "b", 0)))
        # Ahead of its round a key that was gone is not looked at again.
        self.check_run(["each g", "  say 1"], (2, -1, 0),
                       ((1, "a", 2), (1, "m", -1), (1, "b", 0), (1, "a", 2), (1, "b", 0)))
        # One that is gone by then is, though it has no round.
        self.check_run(["each g", "  if has m", "    drop m"], (2, 1, 0), (
            (1, "a", 2), (1, "m", 1), (1, "b", 0), (1, "a", 2), (2, "m", 1), (3, "m", 1), (1, "m", -1), (1, "b", 0),
            (2, "m", -1)))
        # Nor is one that comes amid it.
        self.check_run(["each g", "  set m 0"], (2, -1, 0),
                       ((1, "a", 2), (1, "m", -1), (1, "b", 0), (1, "a", 2), (1, "b", 0)))
        self.check_run(["each g", "  set b 1"], (2, -1, 0),
                       ((1, "a", 2), (1, "m", -1), (1, "b", 0), (1, "a", 2), (1, "b", 1)))

    def test_each_that_is_left(self):
        self.check_run(["each g", "  end"], (2, 1, 0), ((1, "a", 2), (1, "m", 1), (1, "b", 0), (1, "a", 2)))
        self.check_run(["each g", "  if here = m", "    refuse no"], (2, 1, 0), (
            (1, "a", 2), (1, "m", 1), (1, "b", 0), (1, "a", 2), (2, "a", 2), (2, "m", 1), (1, "m", 1), (2, "m", 1),
            (2, "m", 1)))

    def test_deeds_that_are_asked_tried_and_woken(self):
        more = ("deed e 2", "  add b it", "deed f 1 when b", "  say a")
        self.check_run(["ask e a + 1", "say m"], (0, 1, 0),
                       ((1, "a", 0), (4, "b", 0), (6, "a", 0), (2, "m", 1)), more)
        self.check_run(["ask e a", "say m"], (0, 1, 0), ((1, "a", 0), (4, "b", 0), (2, "m", 1)), more)
        self.check_run(["try e 1", "  say m"], (2, 1, 0), ((4, "b", 0), (6, "a", 2)), more)
        self.check_run(["try e m", "  say m"], (2, -1, 0), ((1, "m", -1),), more)

    def test_what_is_taken_back(self):
        more = ("deed e 1", "  set a 1", "  say a", "  refuse no")
        self.check_run(["try e 0", "  say a", "say a"], (2, 1, 0), ((6, "a", 1), (2, "a", 2), (3, "a", 2)), more)
        self.check_run(["ask e 0", "say a"], (2, 1, 0), ((5, "a", 1),), more)
        self.check_run(["say a", "refuse no"], (2, 1, 0), ((1, "a", 2),))

    def test_the_statement_behind_the_200th_looks_at_nothing(self):
        keys = ("key a 2", "key b 2", "key c 2", "key d 2", "group g a b c d")
        # A call of many has 49 statements and 4 + 4 * (1 + 4 + 4) looks; with their four `ask` they are 200 statements.
        many = ("deed many 1", "  each g", "    each g", "      say 1", "      say 2", *["    say 1"] * 3)
        book = Book(lined(*keys, "deed top 1", *["  ask many 0"] * 4, "  say a", *many))
        found = looks(book, RUN, ((1, 0, 0, 0), ()), ("top", 0))
        self.assertEqual(len(found), 4 * (4 + 4 * (1 + 4 + 4)))
        self.assertEqual(found[-1], (14, "d", 0))
        book = Book(book.text.replace("  ask many 0\n  say a", "  say a\n  say a"))
        found = looks(book, RUN, ((1, 0, 0, 0), ()), ("top", 0))
        self.assertEqual(found[-2:], ((10, "a", 1), (11, "a", 1)))
        # A test that is the 201st statement looks at nothing either, nor does an `each`.
        for line in ("  if a = 1\n    end", "  each g\n    end", "  add a a", "  ask many a"):
            text = lined(*keys, "deed top 1", *["  ask many 0"] * 4, line, *many)
            found = looks(Book(text), RUN, ((1, 0, 0, 0), ()), ("top", 0))
            self.assertEqual(len(found), 160)
            self.assertEqual(stepped(Book(text), RUN, ((1, 0, 0, 0), ()), ("top", 0))[0],
                             (("refused", ("top",), "long"),))

    def test_in_a_show_what_is_remembered_or_else_the_base(self):
        book = Book(lined("key a 3", "may m 2", "deed d 1", "  set a 1", "  say a", "  drop m", "  if has m",
                          "    say 1"))
        for memory, worth, gone in (((), 2, 0), ((("a", "deed"),), 1, 0), ((("m", "row"),), 2, -1),
                                    (all_kept(book), 1, -1)):
            self.check_looks(book, ("show", memory), ((2, 0), ()), ("d", 0),
                             ((5, "a", worth), (6, "m", 0), (7, "m", gone)))
        machine = ("show", all_kept(book))
        self.check_looks(book, machine, ((2, 0), (("m", -1),)), ("d", 0), ((5, "a", 1), (6, "m", -1)))
        self.check_looks(book, machine, ((2, -1), (("a", 0), ("m", 1))), ("d", 0),
                         ((5, "a", 1), (6, "m", 1), (7, "m", -1)))

    def test_within_blind_deeds_the_base(self):
        book = Book(lined("key a 3", "key b 2", "group g a b", "deed top 1", "  set a 1", "  ask sly 0", "  say a + b",
                          "deed sly 1 blind", "  say a", "  set b 1", "  ask low 0", "deed low 1 when b", "  each g",
                          "    end"))
        # low is woken by sly, and asked by it.
        low = ((13, "a", 2), (13, "b", 1), (13, "a", 2))
        within = ((9, "a", 2), (10, "b", 0)) + low + low
        for memory, worth in (((), 2), ((("a", "deed"), ("b", "deed")), 1), (all_kept(book), 1)):
            self.check_looks(book, ("show", memory), ((2, 0), ()), ("top", 0), within + ((7, "a", worth), (7, "b", 1)))
            self.check_looks(book, ("show", memory), ((2, 0), ()), ("sly", 0), within)
        self.check_looks(book, ("show", all_kept(book)), ((2, 0), (("a", 0), ("b", 0))), ("low", 0),
                         ((13, "a", 0), (13, "b", 0), (13, "a", 0)))

    def test_by_the_names_of_the_arguments(self):
        book = Book(FLIP)
        self.assertEqual(looks(letter=("flip", 0), state=((0, 1), ()), machine=RUN, book=book),
                         ((4, "a", 0), (5, "b", 1)))

    def test_looks_change_nothing_and_are_the_same_again(self):
        for book in SAMPLES:
            for machine in machines_of(book):
                for store in book.stores:
                    for letter in book.letters:
                        self.assertTrue(same(looks(book, machine, (store, ()), letter),
                                             looks(Book(book.text), machine, (store, ()), letter)))

    def test_errors_in_their_sequence(self):
        book = three_keys()
        for value in WRONG_MACHINES:
            check_refused(self, BadMachine, value, looks, book, value, None, None)
        for value in WRONG_STORES:
            check_refused(self, BadState, (value, ()), looks, book, RUN, (value, ()), None)
        check_refused(self, BadState, ((0, 0, 0), (("a", 0),)), looks, book, RUN, ((0, 0, 0), (("a", 0),)), ("put", 0))
        for value in WRONG_LETTERS:
            check_refused(self, BadLetter, value, looks, book, RUN, ((0, 0, 0), ()), value)


class FirstUnlike(unittest.TestCase):
    def check_first(self, book, memory, store, row, expected):
        with self.subTest(memory=memory, store=store, row=row):
            found = first_unlike(book, memory, store, row)
            self.assertTrue(same(found, expected), found)

    BOOK = Book(lined("key a 3", "may m 2", "deed put 3", "  say a", "  set a it", "  say 1 + a", "deed off 1",
                      "  drop m", "deed look 1", "  if a = 0", "    say 1", "  if has m", "    say m"))

    def test_none_where_nothing_is_unlike(self):
        for book in SAMPLES:
            if is_without_blind_deeds(book):
                for store in book.stores:
                    self.check_first(book, all_kept(book), store, book.letters * 2, None)
        for memory in memories_of(self.BOOK):
            self.check_first(self.BOOK, memory, (0, 0), (), None)
            self.check_first(self.BOOK, memory, (0, 0), (("look", 0), ("look", 0)), None)
            self.check_first(self.BOOK, memory, (2, 0), (("put", 2), ("off", 0)), None)

    def test_in_the_same_letter(self):
        self.check_first(self.BOOK, (), (0, 0), (("put", 1),), (0, 1, 6, "a", 1, 0))
        self.check_first(self.BOOK, (("m", "row"),), (2, 0), (("look", 0), ("put", 1)), (1, 1, 6, "a", 1, 2))
        self.check_first(self.BOOK, (("a", "deed"),), (0, 0), (("put", 1),), None)

    def test_in_a_later_letter(self):
        row = (("put", 1), ("off", 0), ("look", 0))
        self.check_first(self.BOOK, (("a", "deed"),), (0, 0), row, (2, 0, 10, "a", 1, 0))
        self.check_first(self.BOOK, (("a", "row"),), (0, 0), row, (2, 1, 12, "m", -1, 0))
        self.check_first(self.BOOK, (("a", "row"), ("m", "deed")), (0, 1), row, (2, 1, 12, "m", -1, 1))
        self.check_first(self.BOOK, all_kept(self.BOOK), (0, 1), row, None)
        self.check_first(self.BOOK, (("a", "deed"),), (0, 0), row[:2] + (("put", 2),), (2, 0, 4, "a", 1, 0))

    def test_the_first_of_several(self):
        self.check_first(self.BOOK, (), (0, 0), (("off", 0), ("put", 1), ("look", 0)), (1, 1, 6, "a", 1, 0))
        self.check_first(self.BOOK, (("a", "row"),), (0, 0), (("off", 0), ("off", 0), ("look", 0)),
                         (1, 0, 8, "m", -1, 0))

    def test_tellings_can_be_alike_all_the_same(self):
        book = Book(lined("key a 2", "deed put 1", "  set a 1", "  if a = 0", "    say 1", "  else", "    say 1"))
        self.check_first(book, (), (0,), (("put", 0),), (0, 0, 4, "a", 1, 0))
        self.assertTrue(is_true(book, ()))

    def test_without_one_the_tellings_are_alike(self):
        many = 0
        for book in SAMPLES:
            row = book.letters + book.letters[::-1]
            for memory in memories_of(book):
                for store in book.stores:
                    found = first_unlike(book, memory, store, row)
                    state, other = (store, ()), (store, ())
                    for number, letter in enumerate(row):
                        one_look, other_look = looks(book, RUN, state, letter), looks(book, ("show", memory), other,
                                                                                      letter)
                        telling, state = stepped(book, RUN, state, letter)
                        other_telling, other = stepped(book, ("show", memory), other, letter)
                        if found is None or number < found[0]:
                            self.assertTrue(same((telling, one_look), (other_telling, other_look)))
                            many += 1
                        elif number == found[0]:
                            at = found[1]
                            self.assertEqual(one_look[:at], other_look[:at])
                            self.assertEqual(one_look[at] + other_look[at][2:], found[2:])
                            self.assertNotEqual(one_look[at][2], other_look[at][2])
        self.assertGreater(many, 1000)

    def test_in_a_blind_deed_the_base_is_read(self):
        book = Book(lined("key a 3", "deed put 1", "  set a 1", "  ask sly 0", "deed sly 1 blind", "  say a"))
        for memory in memories_of(book):
            self.check_first(book, memory, (0,), (("put", 0),), (0, 0, 6, "a", 1, 0))
            self.check_first(book, memory, (1,), (("put", 0),), None)

    def test_by_the_names_of_the_arguments(self):
        self.assertEqual(first_unlike(row=(("put", 1),), store=(0, 0), memory=(), book=self.BOOK), (0, 1, 6, "a", 1, 0))

    def test_errors_in_their_sequence(self):
        book = three_keys()
        for value in WRONG_MEMORIES:
            check_refused(self, BadMemory, value, first_unlike, book, value, None, None)
        for value in WRONG_STORES:
            check_refused(self, BadStore, value, first_unlike, book, (("a", "row"),), value, None)
        for value, number in WRONG_ROWS:
            check_refused(self, BadRow, number, first_unlike, book, (), (0, 0, 0), value)


class Enough(unittest.TestCase):
    def check_enough(self, expected, *lines):
        with self.subTest(lines=lines):
            keys = ("key b 2", "may m 2", "key a 2", "group g m b", "group h b a")
            self.assertTrue(same(enough(Book(lined(*keys, *lines))), expected))

    def test_keys_that_are_only_read_or_only_set(self):
        self.check_enough((), "deed d 1", "  say a + b", "  if has m", "    end")
        self.check_enough((), "deed d 1", "  set a 1", "  set b 1", "  set m it")
        self.check_enough((), "deed d 1", "  end")
        self.check_enough((), "deed d 1", "  set a b", "  set m b")

    def test_each_kind_of_looking(self):
        for line in ("say a", "say 1 + a", "say a + b", "set b a", "set m a + it", "add b a", "ask low a", "try low a",
                     "if a = 1\n    end", "if 1 != a\n    end", "if 1 = 1 + a\n    end", "if has a\n    end"):
            self.check_enough(("a",) if not line.startswith("add b") else ("a", "b"), "deed d 1", "  " + line,
                              "  set a 1", "deed low 1", "  end")

    def test_each_kind_of_changing(self):
        self.check_enough(("a",), "deed d 1", "  say a", "  set a 1")
        self.check_enough(("a",), "deed d 1", "  add a 1")
        self.check_enough(("m",), "deed d 1", "  drop m")
        self.check_enough(("m",), "deed d 1", "  say m", "  set m 1")
        self.check_enough(("a", "b", "m"), "deed d 1", "  say m + b", "  set a a", "deed e 1", "  set m 1", "  set b 1")

    def test_statements_that_are_never_executed_count(self):
        self.check_enough(("a",), "deed d 1", "  end", "  say a", "deed e 1", "  if 1 = 2", "    set a 1")
        self.check_enough(("a",), "deed d 1", "  if 1 = 1", "    end", "  else", "    say a", "deed e 1",
                          "  set a 1")

    def test_a_set_of_a_key_by_which_a_deed_is_woken(self):
        self.check_enough(("a",), "deed d 1", "  set a 1", "  set b 1", "deed e 1 when a", "  end")
        self.check_enough(("a", "m"), "deed d 1", "  set m 1", "  set a 1", "deed e 1 when a", "  end",
                          "deed f 1 when m", "  end")

    def test_here(self):
        # `each` looks at all keys of its group already.
        self.check_enough(("b", "m"), "deed d 1", "  each g", "    set here 1")
        self.check_enough(("a", "b"), "deed d 1", "  each h", "    add here 1")
        self.check_enough(("a",), "deed d 1", "  each h", "    say here", "  set a 1", "  set m 1")
        self.check_enough(("b",), "deed d 1", "  each g", "    if has here", "      say 1", "  set b 1", "  set a 1")
        self.check_enough(("b", "m"), "deed d 1", "  each h", "    each g", "      set here 1")
        self.check_enough(("a", "b", "m"), "deed d 1", "  each g", "    each h", "      set here 1", "    set here 0")

    def test_each_looks_at_all_its_keys(self):
        self.check_enough(("m",), "deed d 1", "  each g", "    end", "  set m 1", "  set a 1")

    def test_with_these_keys_remembered_a_show_without_blind_deeds_is_true(self):
        for book in SAMPLES:
            if is_without_blind_deeds(book):
                self.assertIs(is_true(book, tuple((key, "row") for key in enough(book))), True)
        self.assertEqual([enough(Book(FLIP)), enough(Book(PAIR))], [("a", "b"), ("a", "b")])

    def test_by_the_name_of_the_argument(self):
        self.assertEqual(enough(book=Book(FLIP)), ("a", "b"))


if __name__ == "__main__":
    unittest.main()
