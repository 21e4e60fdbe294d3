"""Point 20: the lines that a desk answers."""

import unittest

from onlytell.beside import is_true
from onlytell.books import Book
from onlytell.desk import Desk
from onlytell.errors import (
    BadBook, BadInput, BadLine, BadMemory, BadStore, NoDeed, TooMany, Unnamed, Upward,
)
from onlytell.harm import harm
from onlytell.shop import Shop
from onlytell.stamps import reads
from tests.helpers import ANY_VALUES, check_refused, lined, nested, same, three_keys
from tests.samples import (
    BLIND_WITHIN, FLIP, GONE, PAIR, REFUSING, SAMPLES, SLY, WAKING, WRONG_MEMORIES, WRONG_STORES, all_kept,
)
from tests.test_searching import BOOK_1501
from tests.test_shop import check_state, state_of

# A deed with each kind of effect; the key m may be gone.
KINDS = lined(
    "key a 3", "may m 2", "deed all 3", "  set a it", "  add a 2", "  set m 1", "  drop m", "  say it + 997",
    "  try one 0",
    "  say 0", "deed one 1", "  try two 0", "  ask two 0", "deed two 1", "  refuse word", "deed quiet 1", "  end",
)


def desk_of(text, worths, memory=()):
    return Desk(text, worths, memory=memory)


class Made(unittest.TestCase):
    def test_its_shop(self):
        memory = (("a", "deed"), ("b", "row"))
        desk = Desk(PAIR, (0, 1), memory=memory)
        self.assertIsInstance(desk.shop, Shop)
        self.assertEqual(desk.shop, Shop(Book(PAIR), (0, 1), memory=memory))
        check_state(self, desk.shop, (0, 1), (), False, ())
        self.assertTrue(same(Desk(PAIR, (0, 1)).shop.memory, ()))
        desk = Desk(memory=memory, worths=(1, 0), text=PAIR)
        self.assertTrue(same((desk.shop.worths, desk.shop.memory, desk.shop.book.text), ((1, 0), memory, PAIR)))
        with self.assertRaises(TypeError):
            Desk(PAIR, (0, 0), ())

    def test_errors_in_their_sequence(self):
        for value in ANY_VALUES:
            if not isinstance(value, str):
                check_refused(self, BadBook, 0, Desk, value, None)
        check_refused(self, BadBook, 1, Desk, "", None)
        check_refused(self, BadBook, 2, Desk, "key a 2", None)
        check_refused(self, Unnamed, 3, Desk, "key a 2\ndeed put 1\n  set b 1", None)
        check_refused(self, Upward, 3, Desk, "key a 2\ndeed put 1\n  ask put 0", None)
        text = three_keys().text
        for value in WRONG_STORES:
            check_refused(self, BadStore, value, lambda worths: Desk(text, worths, memory=None), value)
        for value in WRONG_MEMORIES:
            check_refused(self, BadMemory, value, lambda memory: Desk(text, (0, 0, 0), memory=memory), value)


class Answers(unittest.TestCase):
    def check_say(self, desk, line, answer):
        found = desk.say(line)
        self.assertTrue(same(found, answer), (line, found))

    def test_do_with_each_kind_of_effect(self):
        desk = desk_of(KINDS, (0, -1))
        self.check_say(desk, "do all 2", "set a 2; add a 2; set m 1; drop m; say 999; refused one>two word; say 0")
        self.check_say(desk, "do all 0", "set a 0; add a 2; set m 1; drop m; say 997; refused one>two word; say 0")
        self.check_say(desk, "do two 0", "refused two word")
        self.check_say(desk, "do one 0", "refused one>two word")
        self.check_say(desk, "do quiet 0", "-")
        check_state(self, desk.shop, (2, -1), (), False,
                    (("all", 2), ("all", 0), ("two", 0), ("one", 0), ("quiet", 0)))

    def test_roads_of_several_names(self):
        desk = desk_of(REFUSING, (0, 0))
        self.check_say(desk, "do top 0", "refused top>mid>low no")
        self.check_say(desk, "do top 1", "set a 1; refused mid>low no; set b 1; add a 1")
        self.check_say(desk, "do mid 0", "refused mid>low no")
        self.check_say(desk_of(GONE, (-1, 0, -1)), "do look 0", "refused look lacks")

    def test_do_while_the_shop_shows(self):
        desk = desk_of(PAIR, (0, 0), (("a", "deed"), ("b", "row")))
        self.check_say(desk, "show", "ok")
        self.check_say(desk, "do put 0", "set a 1; set b 1")
        self.check_say(desk, "worths", "0 0")
        self.check_say(desk, "left", "b 1")
        self.check_say(desk, "do look 0", "say 1")
        self.check_say(desk, "run", "ok")
        self.check_say(desk, "left", "-")
        self.check_say(desk, "do look 0", "say 0")
        check_state(self, desk.shop, (0, 0), (), False, (("look", 0),))

    def test_show_and_run(self):
        desk = desk_of(PAIR, (0, 0), all_kept(Book(PAIR)))
        for line, is_showing in (("show", True), ("show", True), ("run", False), ("run", False), ("show", True)):
            desk.shop.switch(True)
            self.check_say(desk, "do put 0", "set a 1; set b 1")
            self.check_say(desk, line, "ok")
            check_state(self, desk.shop, (0, 0), (), is_showing, ())

    def test_worths(self):
        for book in SAMPLES:
            for store in book.stores:
                words = " ".join("-" if worth == -1 else str(worth) for worth in store)
                self.check_say(desk_of(book.text, store), "worths", words)
        self.check_say(desk_of(GONE, (-1, 1, -1)), "worths", "- 1 -")
        self.check_say(desk_of(SLY, (1,)), "worths", "1")

    def test_left(self):
        book = Book(GONE)
        desk = desk_of(GONE, (1, 0, 2), all_kept(book))
        self.check_say(desk, "left", "-")
        self.check_say(desk, "show", "ok")
        self.check_say(desk, "left", "-")
        self.check_say(desk, "do off 0", "drop m; drop n")
        self.check_say(desk, "left", "m -; n -")
        self.check_say(desk, "do put 2", "refused put lacks")
        self.check_say(desk, "do grow 0", "refused grow lacks")
        self.check_say(desk, "left", "m -; n -")
        desk = desk_of(GONE, (1, 0, 2), all_kept(book))
        self.check_say(desk, "show", "ok")
        self.check_say(desk, "do grow 0", "add a 1; add m 1; add n 1; drop n")
        self.check_say(desk, "left", "a 1; m 0; n -")
        desk = desk_of(GONE, (1, 0, 2), (("n", "row"),))
        self.check_say(desk, "show", "ok")
        self.check_say(desk, "do grow 0", "add a 1; add m 1; add n 1; drop n")
        self.check_say(desk, "left", "n -")
        self.check_say(desk, "worths", "1 0 2")

    def test_reads(self):
        for book in SAMPLES:
            for store in book.stores[::2]:
                desk = desk_of(book.text, store)
                for name, it in book.letters:
                    self.check_say(desk, f"reads {name} {it}", " ".join(reads(book, store, ((name, it),))) or "-")
                check_state(self, desk.shop, store, (), False, ())
        desk = desk_of(PAIR, (0, 0))
        self.check_say(desk, "reads put 0", "-")
        self.check_say(desk, "reads look 0", "b")
        self.check_say(desk_of(FLIP, (0, 0)), "reads look 0", "a b")

    def test_reads_is_of_a_run_from_the_present_worths(self):
        text = lined("key a 2", "key b 2", "deed put 1", "  set a 1", "deed look 1", "  if a = 1", "    say b")
        desk = desk_of(text, (0, 0), (("a", "row"),))
        self.check_say(desk, "reads look 0", "a")
        self.check_say(desk, "show", "ok")
        self.check_say(desk, "do put 0", "set a 1")
        self.check_say(desk, "reads look 0", "a")
        self.check_say(desk, "run", "ok")
        self.check_say(desk, "do put 0", "set a 1")
        self.check_say(desk, "reads look 0", "a b")

    def test_true_and_harm(self):
        for book in SAMPLES[:8]:
            desk = desk_of(book.text, book.stores[0])
            names = sorted(row[0] for row in book.key_rows)
            for keys in ([], names[:1], names[1:], names):
                memory = tuple((key, "row") for key in keys)
                self.check_say(desk, " ".join(["true", *keys]), "yes" if is_true(book, memory) else "no")
                self.check_say(desk, " ".join(["harm", *keys]), "yes" if harm(book, memory)[0] == "harms" else "no")

    def test_true_and_harm_of_keys_through_the_row(self):
        desk = desk_of(PAIR, (0, 0), (("a", "deed"),))
        for line, answer in (("true", "no"), ("true a", "no"), ("true b", "no"), ("true a b", "yes"), ("harm", "no"),
                             ("harm a b", "no")):
            self.check_say(desk, line, answer)
        desk = desk_of(SLY, (0,))
        for line, answer in (("true", "yes"), ("true a", "yes"), ("harm", "yes"), ("harm a", "yes")):
            self.check_say(desk, line, answer)

    def test_too_many_states(self):
        desk = desk_of(BOOK_1501.text, (0, 0, 0, 0))
        check_refused(self, TooMany, 1500, desk.say, "true a b c d")
        check_refused(self, TooMany, 1500, desk.say, "harm a b c d")
        self.check_say(desk, "harm a", "no")

    def test_by_the_name_of_the_argument(self):
        self.assertEqual(Desk(PAIR, (0, 0)).say(line="worths"), "0 0")


# None of these is a line that a desk answers.
PLAIN = ("show", "run", "worths", "left", "true", "harm", "true a", "harm a b", "do put 0", "reads look 0", "true a b")
BAD_LINES = (
    "", " ", "  ", "\n", "do", "reads", "do put", "reads put", "do 0", "do 0 put", "put 0", "put", "do put 0 0",
    "reads put 0 0",
    "do put put", "do put it", "do put x", "do put -1", "do put +0", "do put 00", "do put 01", "do put 007",
    "do put 1000",
    "do put 0000", "do put 9999", "do put 1.0", "do put 0x0", "do put 1_0", "do put ", "do  put 0", "do put  0",
    "do Put 0",
    "do put0 0", "do abcdefghi 0", "do p-t 0", "do p_t 0", "do put\t0", "do put 0\n", "do put 0\ndo put 0",
    "reads abcdefghi 0",
    "reads Look 0", "reads look 0000", "reads look -", "Do put 0", "DO put 0", "does put 0", "show show", "run run",
    "show 0",
    "run put", "worths a", "left a", "worths worths", "Show", "shows", "ok", "no", "yes", "-", "true A", "true 0",
    "true a,b",
    "true a  b", "true abcdefghi", "harm a ", "harm  a", "harm a1", "harm -", "true a -", "true (a)", "true\ta",
    "sh ow", "show\t", "do put \u0660", "do put \u00b2", "true \u00e4", "do put 0;", "wor ths", "true a B",
    "harm abcdefgh i1",
    "end", "set a 1", "key a 2", "help", "quit", "do put 0 ", " do put 0", "do put 0\r", "left\n", "reads put",
    "worth", "harms",
)


class BadLines(unittest.TestCase):
    def check_bad(self, line):
        for showing in (False, True):
            desk = desk_of(PAIR, (0, 0), all_kept(Book(PAIR)))
            desk.shop.switch(showing)
            desk.shop.do("put")
            before = state_of(desk.shop)
            with self.subTest(line=line):
                check_refused(self, BadLine, line, desk.say, line)
            self.assertTrue(same(state_of(desk.shop)[1:], before[1:]))

    def test_lines(self):
        for line in BAD_LINES:
            self.check_bad(line)

    def test_each_line_with_a_blank_or_a_word_more_or_less(self):
        for line in PLAIN:
            words = line.split(" ")
            for wrong in (" " + line, line + " ", line.replace(" ", "  ") if " " in line else line + "  ", line.upper(),
                          line + "\n", "\n" + line, line + " A", line + " 0", line + " -", "x " + line,
                          line.replace(" ", "\t") + "\t",
                          line.replace(" ", "")[:-1] + "1"):
                self.check_bad(wrong)
            if words[0] not in ("true", "harm"):
                self.check_bad(line + " a")
                for place in range(len(words)):
                    self.check_bad(" ".join(words[:place] + words[place + 1:]))

    def test_values_that_are_no_strings(self):
        for value in ANY_VALUES + (["show"], ("show",), ["do", "put", 0], nested(30), 5):
            if value != "put" or not isinstance(value, str):
                self.check_bad(value)
        self.check_bad("put")


class Refused(unittest.TestCase):
    def check_say(self, error, value, line, text=PAIR):
        desk = desk_of(text, (0,) * len(Book(text).key_rows), all_kept(Book(text)))
        before = state_of(desk.shop)
        with self.subTest(line=line):
            check_refused(self, error, value, desk.say, line)
        self.assertTrue(same(state_of(desk.shop)[1:], before[1:]))

    def test_no_deed(self):
        for word in ("do", "reads"):
            for name in ("no", "a", "do", "puts", "abcdefgh", "it", "here", "x"):
                for number in ("0", "7", "999"):
                    self.check_say(NoDeed, name, f"{word} {name} {number}")

    def test_bad_input(self):
        for word in ("do", "reads"):
            for number in (1, 2, 9, 10, 99, 100, 999):
                self.check_say(BadInput, number, f"{word} put {number}")
        self.check_say(BadInput, 3, "do put 3", WAKING)
        self.check_say(BadInput, 2, "reads one 2", WAKING)

    def test_bad_memory(self):
        for word in ("true", "harm"):
            for names in ("b a", "a a", "a b b", "c", "a c", "put", "b c a", "it", "here", "abcdefgh", "a b a", "row",
                          "a row b"):
                self.check_say(BadMemory, tuple((name, "row") for name in names.split()), f"{word} {names}")

    def test_bad_memory_comes_ahead_of_too_many(self):
        self.check_say(BadMemory, (("a", "row"), ("b", "row"), ("d", "row"), ("c", "row")), "true a b d c",
                       BOOK_1501.text)
        self.check_say(TooMany, 1500, "true a b c d", BOOK_1501.text)

    def test_lines_that_are_right_by_their_form(self):
        desk = desk_of(BLIND_WITHIN, (0, 0, 0))
        for line in ("do top 0", "do top 1", "reads sly 1", "true", "harm", "true a b m", "harm m", "show", "run",
                     "worths", "left"):
            self.assertIs(type(desk.say(line)), str)


if __name__ == "__main__":
    unittest.main()
