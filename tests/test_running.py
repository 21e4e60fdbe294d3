"""Point 5: how letters are executed in runs, statement by statement."""

import unittest

from onlytell.books import Book
from onlytell.running import ran
from tests.helpers import lined, same
from tests.samples import REFUSING, SAMPLES, is_refused

KEYS = ("key a 3", "may m 3", "key b 2", "group g a m b", "group h m b")
LOW = ("deed low 3", "  say it + 100")


class Runs(unittest.TestCase):
    def check_run(self, book, store, letter, telling, behind):
        """That a run of one letter tells this and leads to this store."""
        with self.subTest(store=store, letter=letter):
            result = ran(book, store, (letter,))
            self.assertTrue(same(result, ((telling,), behind)), result)

    def check_statements(self, lines, store, it, telling, behind):
        """That a deed with these statements, run with this input, tells this and leads to this store."""
        book = Book(lined(*KEYS, "deed d 3", *["  " + line for line in lines], *LOW))
        with self.subTest(lines=lines):
            self.check_run(book, store, ("d", it), telling, behind)

    def check_lacks(self, lines, store):
        self.check_statements(lines, store, 0, (("refused", ("d",), "lacks"),), store)


class Statements(Runs):
    def test_set(self):
        for line, store, it, worth, behind in (
            ("set a 2", (0, 0, 0), 0, 2, (2, 0, 0)),
            ("set a 0", (0, 0, 0), 0, 0, (0, 0, 0)),
            ("set a 5", (0, 0, 0), 0, 2, (2, 0, 0)),
            ("set a 3", (1, 0, 0), 0, 0, (0, 0, 0)),
            ("set a it", (0, 0, 0), 2, 2, (2, 0, 0)),
            ("set b it", (0, 0, 0), 2, 0, (0, 0, 0)),
            ("set a b", (0, 0, 1), 0, 1, (1, 0, 1)),
            ("set b a", (2, 0, 1), 0, 0, (2, 0, 0)),
            ("set a m + 2", (0, 2, 0), 0, 1, (1, 2, 0)),
            ("set a a + a", (2, -1, 0), 0, 1, (1, -1, 0)),
            ("set m it + a", (2, 0, 0), 2, 1, (2, 1, 0)),
            ("set m 1", (0, -1, 0), 0, 1, (0, 1, 0)),
            ("set m 999 + 998", (0, -1, 0), 0, 2, (0, 2, 0)),
        ):
            self.check_statements([line], store, it, (("set", line.split()[1], worth),), behind)

    def test_add(self):
        for line, store, it, growth, behind in (
            ("add a 1", (0, 0, 0), 0, 1, (1, 0, 0)),
            ("add a 1", (2, 0, 0), 0, 1, (0, 0, 0)),
            ("add a 0", (2, 0, 0), 0, 0, (2, 0, 0)),
            ("add a 3", (2, 0, 0), 0, 0, (2, 0, 0)),
            ("add a 5", (1, 0, 0), 0, 2, (0, 0, 0)),
            ("add a a", (2, 0, 0), 0, 2, (1, 0, 0)),
            ("add b it", (0, 0, 1), 2, 0, (0, 0, 1)),
            ("add b it + b", (0, 0, 1), 2, 1, (0, 0, 0)),
            ("add m 2", (0, 2, 0), 0, 2, (0, 1, 0)),
            ("add m m + m", (0, 2, 0), 0, 1, (0, 0, 0)),
        ):
            self.check_statements([line], store, it, (("add", line.split()[1], growth),), behind)

    def test_drop(self):
        for worth in range(3):
            self.check_statements(["drop m"], (1, worth, 1), 0, (("drop", "m"),), (1, -1, 1))
        self.check_statements(["drop m", "set m 1"], (1, 1, 1), 0, (("drop", "m"), ("set", "m", 1)), (1, 1, 1))

    def test_say(self):
        for line, store, it, number in (
            ("say 0", (0, 0, 0), 0, 0), ("say 999", (0, 0, 0), 0, 999), ("say 999 + 999", (0, 0, 0), 0, 1998),
            ("say it", (0, 0, 0), 2, 2), ("say it + it", (0, 0, 0), 2, 4), ("say a + m", (2, 2, 0), 0, 4),
            ("say b + 3", (0, 0, 1), 0, 4), ("say a", (1, -1, 0), 2, 1),
        ):
            self.check_statements([line], store, it, (("say", number),), store)

    def test_it_is_zero_in_a_letter_with_this_input(self):
        self.check_statements(["say it", "set a it"], (2, 0, 0), 0, (("say", 0), ("set", "a", 0)), (0, 0, 0))

    def test_if(self):
        for test, store, it, holds in (
            ("a = b", (1, 0, 1), 0, True), ("a = b", (2, 0, 1), 0, False), ("a != b", (1, 0, 1), 0, False),
            ("a != b", (2, 0, 1), 0, True), ("a = 1", (1, 0, 0), 0, True), ("it = 2", (0, 0, 0), 2, True),
            ("it != 2", (0, 0, 0), 1, True), ("a + b = 3", (2, 0, 1), 0, True), ("a + b = 0", (2, 0, 1), 0, False),
            ("a = 3", (0, 0, 0), 0, False), ("a != 3", (0, 0, 0), 0, True), ("a + 1 = m + 2", (2, 1, 0), 0, True),
            ("500 + 500 = 999 + 1", (0, 0, 0), 0, True), ("has m", (0, 0, 0), 0, True), ("has m", (0, -1, 0), 0, False),
            ("has a", (0, -1, 0), 0, True), ("has m", (0, 2, 0), 0, True),
        ):
            says = (("say", 1),) if holds else (("say", 2),)
            self.check_statements([f"if {test}", "  say 1", "else", "  say 2"], store, it, says, store)
            self.check_statements([f"if {test}", "  say 1"], store, it, says if holds else (), store)
            self.check_statements([f"if {test}", "  say 1", "say 3"], store, it,
                                  says + (("say", 3),) if holds else (("say", 3),), store)

    def test_ask(self):
        for amount, said in (("0", 100), ("1", 101), ("2", 102), ("3", 100), ("5", 102), ("it + 2", 101)):
            self.check_statements([f"ask low {amount}", "say 1"], (0, 0, 0), 2, (("say", said), ("say", 1)), (0, 0, 0))
            self.check_statements([f"try low {amount}", "  say 9", "say 1"], (0, 0, 0), 2,
                                  (("say", said), ("say", 1)), (0, 0, 0))

    def test_each_deed_has_its_own_input(self):
        self.check_statements(["ask low it + 1", "say it"], (0, 0, 0), 1, (("say", 102), ("say", 1)), (0, 0, 0))

    def test_what_is_set_is_read_by_later_statements(self):
        self.check_statements(["set a 1", "say a", "add a 1", "say a + m", "drop m", "if has m", "  say 9"], (0, 2, 0),
                              0,
                              (("set", "a", 1), ("say", 1), ("add", "a", 1), ("say", 4), ("drop", "m")), (2, -1, 0))

    def test_end(self):
        says = (("say", 1),)
        self.check_statements(["end"], (0, 0, 0), 0, (), (0, 0, 0))
        self.check_statements(["say 1", "end", "say 2"], (0, 0, 0), 0, says, (0, 0, 0))
        self.check_statements(["say 1", "if a = 0", "  end", "say 2"], (0, 0, 0), 0, says, (0, 0, 0))
        self.check_statements(["say 1", "if a = 1", "  end", "else", "  end", "say 2"], (0, 0, 0), 0, says, (0, 0, 0))
        self.check_statements(["each g", "  say 1", "  end", "say 2"], (0, 0, 0), 0, says, (0, 0, 0))
        self.check_statements(["each g", "  each h", "    say 1", "    end"], (0, 0, 0), 0, says, (0, 0, 0))

    def test_end_leaves_only_its_own_deed(self):
        book = Book(lined(*KEYS, "deed d 1", "  ask e 0", "  say 2", "  try e 0", "  say 3", "deed e 1", "  say 1",
                          "  end", "  refuse no"))
        self.check_run(book, (0, 0, 0), ("d", 0), (("say", 1), ("say", 2), ("say", 1), ("say", 3)), (0, 0, 0))

    def test_end_below_a_try(self):
        book = Book(lined(*KEYS, "deed d 1", "  say 1", "  try e 0", "    say 2", "    end", "  say 3",
                          "deed e 1", "  refuse no"))
        told = (("say", 1), ("refused", ("e",), "no"), ("say", 2))
        self.check_run(book, (0, 0, 0), ("d", 0), told, (0, 0, 0))


class Lacks(Runs):
    def test_sums_that_read_a_key_that_is_gone(self):
        for part in ("m", "m + 1", "1 + m", "m + a", "a + m", "m + m", "it + m"):
            for line in (f"set a {part}", f"set m {part}", f"add a {part}", f"add m {part}", f"say {part}",
                         f"ask low {part}", f"try low {part}"):
                self.check_lacks([line], (2, -1, 1))
            for test in (f"{part} = 1", f"1 = {part}", f"{part} != 1", f"1 + 1 != {part}"):
                self.check_lacks([f"if {test}", "  say 1", "else", "  say 2"], (2, -1, 1))

    def test_add_and_drop_of_a_key_that_is_gone(self):
        self.check_lacks(["add m 1"], (0, -1, 0))
        self.check_lacks(["add m 0"], (0, -1, 0))
        self.check_lacks(["drop m"], (0, -1, 0))
        self.check_lacks(["drop m", "drop m"], (0, 1, 0))
        self.check_lacks(["drop m", "add m 1"], (0, 1, 0))

    def test_has_and_set_lack_nothing(self):
        self.check_statements(["if has m", "  say 1", "set m 0", "say m"], (0, -1, 0), 0,
                              (("set", "m", 0), ("say", 0)), (0, 0, 0))

    def test_the_block_below_a_try_is_not_for_its_own_input(self):
        self.check_lacks(["try low m", "  say 1"], (0, -1, 0))

    def test_all_is_taken_back(self):
        self.check_lacks(["set a 2", "set m 2", "set b 1", "drop m", "say m"], (0, 0, 0))
        self.check_lacks(["say 1", "set m 2", "drop m", "ask low 0", "add m 1"], (0, -1, 0))


class Refusals(Runs):
    def test_by_the_letter_itself(self):
        book = Book(REFUSING)
        for store in book.stores:
            self.check_run(book, store, ("low", 0), (("refused", ("low",), "no"),), store)

    def test_the_road_through_deeds_that_are_asked(self):
        book = Book(REFUSING)
        for store in book.stores:
            self.check_run(book, store, ("mid", 0), (("refused", ("mid", "low"), "no"),), store)
            self.check_run(book, store, ("top", 0), (("refused", ("top", "mid", "low"), "no"),), store)

    def test_below_a_try(self):
        book = Book(REFUSING)
        told = (("set", "a", 1), ("refused", ("mid", "low"), "no"), ("set", "b", 1), ("add", "a", 1))
        for store in book.stores:
            self.check_run(book, store, ("top", 1), told, (2, 1))
            self.check_run(book, store, ("top", 2), (("set", "a", 1), ("add", "a", 1)), (2, store[1]))

    def test_a_try_without_a_block(self):
        book = Book(lined("key a 3", "deed d 1", "  set a 1", "  try e 0", "  say a", "deed e 1", "  set a 2",
                          "  refuse abcdefgh"))
        told = (("set", "a", 1), ("refused", ("e",), "abcdefgh"), ("say", 1))
        self.check_run(book, (0,), ("d", 0), told, (1,))

    def test_a_refusal_in_the_block_below_a_try(self):
        book = Book(lined("key a 3", "deed d 1", "  set a 1", "  try e 0", "    refuse two", "  say 9",
                          "deed e 1", "  refuse one"))
        self.check_run(book, (0,), ("d", 0), (("refused", ("d",), "two"),), (0,))

    def test_a_try_within_a_try(self):
        book = Book(lined("key a 3", "deed d 1", "  try e 0", "    try f 0", "      say a", "deed e 1", "  set a 1",
                          "  try f 0", "    say a", "    refuse e", "deed f 1", "  set a 2", "  refuse f"))
        told = (("refused", ("e",), "e"), ("refused", ("f",), "f"), ("say", 0))
        self.check_run(book, (0,), ("d", 0), told, (0,))
        self.check_run(book, (0,), ("e", 0), (("refused", ("e",), "e"),), (0,))

    def test_a_try_of_a_deed_that_is_not_refused(self):
        book = Book(lined("key a 3", "deed d 1", "  try e 0", "    say 9", "deed e 1", "  try f 0", "  set a 1",
                          "deed f 1", "  set a 2", "  refuse f"))
        self.check_run(book, (0,), ("d", 0), (("refused", ("f",), "f"), ("set", "a", 1)), (1,))

    def test_the_road_through_deeds_that_are_woken(self):
        book = Book(lined("key a 2", "key b 2", "deed d 2", "  set b 1", "  if it = 0", "    set a 1", "  else",
                          "    try e 0", "      say 7", "deed e 1", "  add a 1", "deed f 1 when a", "  ask g 0",
                          "deed g 1", "  refuse no"))
        self.check_run(book, (0, 0), ("d", 0), (("refused", ("d", "f", "g"), "no"),), (0, 0))
        told = (("set", "b", 1), ("refused", ("e", "f", "g"), "no"), ("say", 7))
        self.check_run(book, (0, 0), ("d", 1), told, (0, 1))
        self.check_run(book, (1, 0), ("d", 0), (("set", "b", 1), ("set", "a", 1)), (1, 1))

    def test_within_each(self):
        book = Book(lined("may m 2", "may n 2", "group g m n", "deed d 1", "  each g", "    try low 0",
                          "      drop here", "deed e 1", "  each g", "    set here 1", "    if m = n",
                          "      refuse no",
                          "deed low 1", "  refuse low"))
        told = (("refused", ("low",), "low"), ("drop", "m"), ("refused", ("low",), "low"), ("drop", "n"))
        self.check_run(book, (0, 1), ("d", 0), told, (-1, -1))
        self.check_run(book, (1, 0), ("e", 0), (("refused", ("e",), "no"),), (1, 0))
        self.check_run(book, (0, -1), ("e", 0), (("refused", ("e",), "lacks"),), (0, -1))

    def test_refused_letters_leave_nothing(self):
        many = 0
        for book in SAMPLES:
            for store in book.stores:
                for letter in book.letters:
                    (telling,), behind = ran(book, store, (letter,))
                    if is_refused(telling, letter):
                        self.assertEqual(behind, store)
                        many += 1
        self.assertGreater(many, 100)


# A deed whose letter executes 49 statements: 1 + 4 * (1 + 4 * 2 + 3).
LONG_KEYS = ("key a 2", "key b 2", "key c 2", "key d 2", "group g a b c d")
EACH_49 = ("each g", "  each g", "    say 1", "    say 2", "  say 3", "  say 4", "  say 5")
MANY = ("deed many 1",) + tuple("  " + line for line in EACH_49)
MANY_SAYS = tuple(("say", number) for number in ((1, 2) * 4 + (3, 4, 5)) * 4)
SAY_7 = ("say", 7)


class Long(Runs):
    def check_long(self, lines, telling, behind=(0, 0, 0, 0), more=MANY):
        """That the deed of these statements, ahead of the deeds in more, tells this, as first letter and later."""
        book = Book(lined(*LONG_KEYS, "deed top 1", *["  " + line for line in lines], *more))
        store = (0, 0, 0, 0)
        self.check_run(book, store, ("top", 0), telling, behind)
        last = book.letters[-1]
        self.assertEqual(ran(book, store, (last, last))[0], (MANY_SAYS, MANY_SAYS))
        # The next letter is counted anew.
        self.assertEqual(ran(book, store, (last, ("top", 0)))[0][1], telling)

    def check_too_long(self, lines, road=("top",), more=MANY):
        self.check_long(lines, (("refused", road, "long"),), more=more)

    def test_the_200th_statement_is_executed(self):
        self.check_long(["ask many 0"] * 4, MANY_SAYS * 4)
        self.check_long(["ask many 0"] * 3 + list(EACH_49) + ["end"], MANY_SAYS * 4)

    def test_the_next_one_refuses_its_deed(self):
        for line in ("say 7", "end", "set a 1", "refuse no", "if a = 0", "try many 0", "ask many 0", "each g",
                     "add a 0"):
            block = ["  say 7"] if line.split()[0] in ("if", "each") else []
            self.check_too_long(["ask many 0"] * 4 + [line] + block)
        self.check_too_long(["say 7"] + ["ask many 0"] * 4, ("top", "many"))
        self.check_too_long(["set a 1", "set b 1"] + ["ask many 0"] * 5, ("top", "many"))

    def test_if_and_each_are_counted_and_else_is_not(self):
        asks = ["  ask many 0"] * 3
        self.check_long(["if a = 0"] + asks + list(EACH_49), MANY_SAYS * 4)
        self.check_too_long(["if a = 0"] + asks + list(EACH_49) + ["say 7"])
        self.check_long(["if a = 1", "  end", "else"] + asks + list(EACH_49), MANY_SAYS * 4)
        self.check_too_long(["if a = 1", "  end", "else"] + asks + list(EACH_49) + ["say 7"])

    def test_a_try_of_a_deed_that_is_too_long(self):
        refused = (("refused", ("many",), "long"),)
        self.check_long(["try many 0"] * 4, MANY_SAYS * 4)
        self.check_long(["say 7"] + ["try many 0"] * 4, (SAY_7,) + MANY_SAYS * 3 + refused)
        self.check_long(["set a 1"] + ["try many 0"] * 4, (("set", "a", 1),) + MANY_SAYS * 3 + refused, (1, 0, 0, 0))
        self.check_long(["try many 0"] * 4 + ["  say 7"], MANY_SAYS * 4)

    def test_behind_such_a_try_the_next_statement_is_refused_too(self):
        self.check_too_long(["say 7"] + ["try many 0"] * 4 + ["say 7"])
        self.check_too_long(["say 7"] + ["try many 0"] * 4 + ["  say 7"])
        self.check_too_long(["say 7"] + ["try many 0"] * 4 + ["  end"])

    def test_statements_that_were_taken_back_are_counted(self):
        # Each try of bad counts 1 + 3 + 49, so 41 are left: 1 + 4 * (1 + 4 * 2 + 1).
        bad = ("deed bad 1", "  set a 1", "  ask many 0", "  refuse no") + MANY
        refused = (("refused", ("bad",), "no"),) * 3
        each_41 = ["each g", "  each g", "    say 1", "    say 2", "  say 3"]
        says = tuple(("say", number) for number in ((1, 2) * 4 + (3,)) * 4)
        self.check_long(["try bad 0"] * 3, refused, more=bad)
        self.check_long(["try bad 0"] * 3 + each_41, refused + says, more=bad)
        self.check_too_long(["try bad 0"] * 3 + each_41 + ["say 7"], more=bad)
        self.check_too_long(["say 7"] + ["try bad 0"] * 3 + each_41, more=bad)

    def test_statements_of_woken_deeds_are_counted(self):
        woken = ("deed woken 1 when a",) + MANY[1:]
        told = (("add", "a", 1),) + MANY_SAYS
        self.check_long(["add a 1"] * 4, told * 4, more=woken)
        self.check_too_long(["say 7"] + ["add a 1"] * 4, ("top", "woken"), more=woken)
        self.check_too_long(["add a 1"] * 4 + ["say 7"], more=woken)
        self.check_long(["add a 1"] * 3 + ["add a 0"] + ["say 7"] * 4, told * 3 + (("add", "a", 0),) + (SAY_7,) * 4,
                        (1, 0, 0, 0), more=woken)


if __name__ == "__main__":
    unittest.main()
