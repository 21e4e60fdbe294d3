"""Point 5: deeds that are woken by keys, and `each`."""

import unittest

from onlytell.books import Book
from onlytell.running import ran
from tests.helpers import lined, same


class Runs(unittest.TestCase):
    def check_run(self, book, store, letter, telling, behind):
        with self.subTest(store=store, letter=letter):
            result = ran(book, store, (letter,))
            self.assertTrue(same(result, ((telling,), behind)), result)


class Waking(Runs):
    def test_by_a_set_that_gives_another_worth(self):
        book = Book(lined("key a 3", "deed put 3", "  set a it", "  say 1", "deed one 1 when a", "  say 9"))
        for worth in range(3):
            for it in range(3):
                woken = (("say", 9),) if it != worth else ()
                self.check_run(book, (worth,), ("put", it), (("set", "a", it),) + woken + (("say", 1),), (it,))

    def test_by_an_add_that_gives_another_worth(self):
        book = Book(lined("key a 3", "deed grow 3", "  add a it + 2", "  say 1", "deed one 3 when a", "  say it + 10"))
        for worth in range(3):
            for it in range(3):
                growth = (it + 2) % 3
                behind = (worth + growth) % 3
                woken = (("say", behind + 10),) if growth else ()
                self.check_run(book, (worth,), ("grow", it), (("add", "a", growth),) + woken + (("say", 1),), (behind,))

    def test_by_a_set_of_a_key_that_was_gone(self):
        book = Book(lined("may m 2", "deed put 2", "  set m it", "deed one 1 when m", "  say 9"))
        for worth, it, is_woken in ((-1, 0, True), (-1, 1, True), (0, 0, False), (1, 0, True), (1, 1, False)):
            told = (("set", "m", it),) + ((("say", 9),) if is_woken else ())
            self.check_run(book, (worth,), ("put", it), told, (it,))

    def test_a_drop_wakes_no_deed(self):
        book = Book(lined("may m 2", "deed off 1", "  drop m", "deed back 1", "  drop m", "  set m 1",
                          "deed one 2 when m", "  say it"))
        for worth in (0, 1):
            self.check_run(book, (worth,), ("off", 0), (("drop", "m"),), (-1,))
            # Just ahead of the set it was gone, whatever it was before.
            self.check_run(book, (worth,), ("back", 0), (("drop", "m"), ("set", "m", 1), ("say", 1)), (1,))

    def test_other_keys_wake_no_deed(self):
        book = Book(lined("key a 2", "key b 2", "deed put 1", "  set b 1", "  add b 1", "deed one 1 when a", "  say 9"))
        self.check_run(book, (0, 0), ("put", 0), (("set", "b", 1), ("add", "b", 1)), (0, 0))

    def test_the_input_is_the_worth_modulo_the_size_of_the_deed(self):
        book = Book(lined("key a 3", "deed put 3", "  set a it", "deed one 1 when a", "  say it", "deed two 2 when a",
                          "  say it", "deed three 2", "  end"))
        for it, inputs in ((0, (0, 0)), (1, (0, 1)), (2, (0, 0))):
            told = (("set", "a", it),) + tuple(("say", number) for number in inputs)
            self.check_run(book, ((it + 1) % 3,), ("put", it), told, (it,))

    def test_all_woken_deeds_in_the_sequence_of_the_text(self):
        book = Book(lined("key z 2", "key a 2", "deed put 2", "  set z 1", "  set a 1", "  say 0",
                          "deed zz 1 when z", "  say 1", "deed aa 1 when a", "  say 2", "deed ab 1 when z", "  say 3",
                          "deed y 1 when a", "  say 4"))
        told = (("set", "z", 1), ("say", 1), ("say", 3), ("set", "a", 1), ("say", 2), ("say", 4), ("say", 0))
        self.check_run(book, (0, 0), ("put", 0), told, (1, 1))

    def test_the_input_stays_when_an_elder_deed_lets_the_key_be_gone(self):
        book = Book(lined("may m 3", "deed put 1", "  set m 2", "  if has m", "    say 9", "deed one 3 when m",
                          "  say m", "  drop m", "deed two 3 when m", "  say it + 5", "  if has m", "    say 8"))
        self.check_run(book, (0,), ("put", 0), (("set", "m", 2), ("say", 2), ("drop", "m"), ("say", 7)), (-1,))

    def test_woken_deeds_read_what_the_statement_gave(self):
        book = Book(lined("key a 3", "key b 3", "deed put 1", "  set a 2", "  say b", "deed one 1 when a",
                          "  set b a + 2", "  say a"))
        self.check_run(book, (0, 0), ("put", 0), (("set", "a", 2), ("set", "b", 1), ("say", 2), ("say", 1)), (2, 1))

    def test_woken_deeds_wake_others(self):
        book = Book(lined("key a 2", "key b 2", "key c 2", "deed put 1", "  set a 1", "  say 0", "deed one 1 when a",
                          "  set b 1", "  say 1", "deed two 1 when b", "  add c 1", "  say 2", "deed three 1 when c",
                          "  say 3"))
        told = (("set", "a", 1), ("set", "b", 1), ("add", "c", 1), ("say", 3), ("say", 2), ("say", 1), ("say", 0))
        self.check_run(book, (0, 0, 0), ("put", 0), told, (1, 1, 1))
        told = (("set", "a", 1), ("set", "b", 1), ("say", 1), ("say", 0))
        self.check_run(book, (0, 1, 0), ("put", 0), told, (1, 1, 0))

    def test_deeds_are_woken_by_here_too(self):
        book = Book(lined("key a 2", "key b 2", "key c 2", "group g a b c", "deed put 1", "  each g", "    set here 1",
                          "deed one 1 when b", "  say 1", "deed two 1 when c", "  say 2"))
        sets = [("set", name, 1) for name in "abc"]
        self.check_run(book, (0, 0, 1), ("put", 0), (sets[0], sets[1], ("say", 1), sets[2]), (1, 1, 1))
        self.check_run(book, (1, 1, 0), ("put", 0), (*sets, ("say", 2)), (1, 1, 1))

    def test_a_woken_deed_that_is_over_or_asked_as_well(self):
        book = Book(lined("key a 2", "deed put 1", "  set a 1", "  ask one 0", "  say 5", "deed one 2 when a",
                          "  if it = 1", "    end", "  say 3"))
        self.check_run(book, (0,), ("put", 0), (("set", "a", 1), ("say", 3), ("say", 5)), (1,))
        self.check_run(book, (0,), ("one", 1), (), (0,))

    def test_a_refused_woken_deed_refuses_the_one_that_set_the_key(self):
        book = Book(lined("key a 2", "key b 2", "deed put 1", "  set b 1", "  set a 1", "  say 5",
                          "deed one 2 when a", "  say 1", "deed two 2 when a", "  refuse no"))
        self.check_run(book, (0, 0), ("put", 0), (("refused", ("put", "two"), "no"),), (0, 0))
        self.check_run(book, (1, 0), ("put", 0), (("set", "b", 1), ("set", "a", 1), ("say", 5)), (1, 1))

    def test_a_try_around_a_deed_that_wakes_a_refused_one(self):
        book = Book(lined("key a 2", "key b 2", "deed asks 1", "  set b 1", "  try put 0", "    say a", "  say b",
                          "deed put 1", "  set a 1", "  say 5", "deed one 2 when a", "  set b 0", "  refuse no"))
        told = (("set", "b", 1), ("refused", ("put", "one"), "no"), ("say", 0), ("say", 1))
        self.check_run(book, (0, 0), ("asks", 0), told, (0, 1))


EACH_KEYS = ("may m 2", "may n 2", "may o 2", "group g o m n", "group h n o")


class Each(Runs):
    def check_each(self, lines, store, telling, behind):
        book = Book(lined(*EACH_KEYS, "deed d 1", *["  " + line for line in lines]))
        with self.subTest(lines=lines):
            self.check_run(book, store, ("d", 0), telling, behind)

    def test_the_keys_that_are_there_in_the_sequence_of_the_group(self):
        self.check_each(["each g", "  say here"], (0, 1, 0), (("say", 0), ("say", 0), ("say", 1)), (0, 1, 0))
        self.check_each(["each g", "  add here 1"], (0, 1, 0),
                        (("add", "o", 1), ("add", "m", 1), ("add", "n", 1)), (1, 0, 1))
        self.check_each(["each h", "  drop here"], (0, 1, 0), (("drop", "n"), ("drop", "o")), (0, -1, -1))

    def test_keys_that_are_gone_when_it_begins(self):
        self.check_each(["each g", "  set here 1"], (0, -1, 0), (("set", "o", 1), ("set", "m", 1)), (1, -1, 1))
        self.check_each(["each g", "  set here 1"], (-1, -1, -1), (), (-1, -1, -1))
        self.check_each(["each g", "  say 1", "say 2"], (-1, -1, -1), (("say", 2),), (-1, -1, -1))

    def test_keys_that_go_amid_it(self):
        self.check_each(["each g", "  say 1", "  if has n", "    drop n"], (0, 0, 0),
                        (("say", 1), ("drop", "n"), ("say", 1)), (0, -1, 0))
        self.check_each(["each g", "  drop here", "  if has m", "    drop m", "  if has n", "    drop n"], (0, 0, 0),
                        (("drop", "o"), ("drop", "m"), ("drop", "n")), (-1, -1, -1))

    def test_keys_that_come_amid_it(self):
        self.check_each(["each g", "  set n 1"], (0, -1, 0), (("set", "n", 1), ("set", "n", 1)), (0, 1, 0))
        self.check_each(["each g", "  set m 1", "  set n 1"], (-1, -1, 0), (("set", "m", 1), ("set", "n", 1)),
                        (1, 1, 0))

    def test_a_key_that_goes_and_comes_back_ahead_of_its_turn(self):
        self.check_each(["each g", "  drop n", "  set n 1", "  say here"], (0, 0, 0),
                        (("drop", "n"), ("set", "n", 1), ("say", 0)) * 2 + (("drop", "n"), ("set", "n", 1), ("say", 1)),
                        (0, 1, 0))

    def test_a_key_that_goes_in_its_own_round(self):
        self.check_each(["each h", "  drop here", "  if has here", "    say 1", "  else", "    say 2"], (0, 0, 0),
                        (("drop", "n"), ("say", 2), ("drop", "o"), ("say", 2)), (0, -1, -1))
        self.check_each(["each h", "  drop here", "  say here"], (0, 0, 0), (("refused", ("d",), "lacks"),), (0, 0, 0))

    def test_here_in_each_place(self):
        self.check_each(["each h", "  if here = 1", "    say here + 1", "  if 0 = here + here", "    say 9 + here"],
                        (0, 1, 0), (("say", 2), ("say", 9)), (0, 1, 0))
        self.check_each(["each h", "  set m here + 1", "  add m here"], (0, 1, 1),
                        (("set", "m", 0), ("add", "m", 1)) * 2, (1, 1, 1))

    def test_each_within_each(self):
        told = tuple(("say", number) for number in (11, 10, 21, 11, 10, 20))
        self.check_each(["each h", "  each h", "    say here + 10", "  say here + 20"], (0, 1, 0), told, (0, 1, 0))

    def test_each_behind_each(self):
        self.check_each(["each h", "  drop here", "each g", "  say here + 1"], (1, 0, 0),
                        (("drop", "n"), ("drop", "o"), ("say", 2)), (1, -1, -1))

    def test_deeds_that_are_asked_begin_their_own_each(self):
        book = Book(lined(*EACH_KEYS, "deed d 1", "  each h", "    ask e here", "    say here", "deed e 2", "  each g",
                          "    say here + 10"))
        told = (("say", 10), ("say", 11), ("say", 10), ("say", 0), ("say", 10), ("say", 11), ("say", 10), ("say", 0))
        self.check_run(book, (1, 0, 0), ("d", 0), told, (1, 0, 0))


if __name__ == "__main__":
    unittest.main()
