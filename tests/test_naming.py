"""Point 4: what lines name, the deeds that must stand further below, and which error comes first."""

import unittest

from onlytell.books import Book
from onlytell.errors import BadBook, Unnamed, Upward
from tests.helpers import check_refused, lined

# Four lines of keys and two of groups; what follows begins with line 7.
HEAD = ("key a 2", "may m 3", "key b 2", "may n 2", "group g a m", "group h m n")
LOW = ("deed low 1", "  end")


class Lines(unittest.TestCase):
    def check_right(self, *lines):
        self.assertEqual(len(Book(lined(*HEAD, *lines))), len([line for line in lines if line.startswith("deed")]))

    def check_wrong(self, error, number, *lines):
        with self.subTest(lines=lines):
            check_refused(self, error, number, Book, lined(*HEAD, *lines))

    def check_statement(self, error, line):
        """That the statement is wrong in a block of each kind, whatever stands behind it."""
        self.check_wrong(error, 8, "deed d 2", line, *LOW)
        self.check_wrong(error, 9, "deed d 2", "  end", line, "  say a", *LOW)
        self.check_wrong(error, 10, "deed d 2", "  if a = 1", "    say 1", "    " + line.strip(), *LOW)
        self.check_wrong(error, 11, "deed d 2", "  if a = 1", "    end", "  else", "    " + line.strip(), *LOW)
        self.check_wrong(error, 9, "deed d 2", "  try low 0", "    " + line.strip(), *LOW)
        self.check_wrong(error, 11, "deed top 1", "  end", "deed d 2", "  end", line, *LOW)

    def check_head(self, error, line):
        self.check_wrong(error, 8, "deed d 2", line, "    end", *LOW)
        self.check_wrong(error, 9, "deed d 2", "  if a = 1", "  " + line, "      end", *LOW)


class Unknown(Lines):
    def test_keys(self):
        for line in ("set c 1", "add c 1", "drop c", "set a c", "set a c + 1", "set a 1 + c", "add a c", "add m 1 + c",
                     "say c", "say a + c", "say c + a", "ask low c", "ask low 1 + c", "try low c", "set g 1", "say g",
                     "say low", "set low 1", "drop g", "set it 1", "add it 1", "drop it"):
            self.check_statement(Unnamed, "  " + line)
        for line in ("if c = 1", "if 1 = c", "if a + c = 1", "if 1 != c + a", "if has c", "if has it", "if has g",
                     "try low c"):
            self.check_head(Unnamed, "  " + line)

    def test_keys_of_groups(self):
        lines = ("deed d 1", "  end")
        for keys in ("a c", "c a", "a b m c", "c e", "a g", "a it", "here a", "a here"):
            check_refused(self, Unnamed, 4, Book, lined("key a 2", "key b 2", "may m 2", f"group g {keys}", *lines))
            check_refused(self, Unnamed, 5, Book, lined("key a 2", "key b 2", "may m 2", "group x a b",
                                                        f"group g {keys}", *lines))

    def test_keys_that_wake(self):
        for key in ("c", "g", "low", "it", "here", "d"):
            self.check_wrong(Unnamed, 7, f"deed d 1 when {key}", "  end", *LOW)
            self.check_wrong(Unnamed, 9, "deed top 1", "  end", f"deed d 1 blind when {key}", "  end", *LOW)

    def test_deeds(self):
        for line in ("ask lower 0", "try lower 0", "ask a 0", "try g 0", "ask here 0", "ask it 1", "try it it"):
            self.check_statement(Unnamed, "  " + line)
        self.check_head(Unnamed, "  try lower 0")
        self.check_wrong(Unnamed, 8, "deed d 1", "  ask e 0")

    def test_groups(self):
        for group in ("i", "a", "low", "d", "here", "it"):
            self.check_head(Unnamed, f"  each {group}")
        check_refused(self, Unnamed, 4, Book, lined("key a 2", "key b 2", "deed d 1", "  each a", "    end"))

    def test_drops_of_keys_that_are_always_there(self):
        self.check_statement(Unnamed, "  drop a")
        self.check_statement(Unnamed, "  drop b")
        self.check_right("deed d 1", "  drop m", "  drop n")


class Here(Lines):
    def check_inside(self, line, group="g"):
        self.check_right("deed d 1", f"  each {group}", "    " + line, *LOW)
        self.check_right("deed d 1", f"  each {group}", "    try low 0", "      " + line, *LOW)
        self.check_right("deed d 1", f"  each {group}", "    if a = 1", "      end", "    else", "      " + line, *LOW)

    def check_outside(self, line):
        self.check_wrong(Unnamed, 10, "deed d 1", "  each h", "    end", "  " + line, *LOW)
        self.check_wrong(Unnamed, 12, "deed d 1", "  each h", "    end", "deed e 1", "  end", "  " + line, *LOW)

    def test_within_each_alone(self):
        for line in ("set here 1", "add here it", "set a here", "set here here", "add here here + here", "say here",
                     "say 1 + here", "ask low here", "try low here + 1"):
            self.check_inside(line)
            self.check_statement(Unnamed, "  " + line)
            self.check_outside(line)
        for line in ("if has here", "if here = 1", "if 1 != here", "if a + here = 1", "if 1 = here + it"):
            self.check_right("deed d 1", "  each g", "    " + line, "      say here")
            self.check_head(Unnamed, "  " + line)
        self.check_inside("drop here", group="h")
        self.check_statement(Unnamed, "  drop here")
        self.check_outside("drop here")

    def test_a_deed_that_is_asked_within_each_is_not_within_it(self):
        self.check_wrong(Unnamed, 11, "deed d 1", "  each g", "    ask low 0", "deed low 1", "  say here")

    def test_drops_go_by_all_keys_of_the_group(self):
        self.check_wrong(Unnamed, 9, "deed d 1", "  each g", "    drop here")
        self.check_wrong(Unnamed, 10, "deed d 1", "  each g", "    if has here", "      drop here")

    def test_the_innermost_of_two(self):
        self.check_right("deed d 1", "  each g", "    each h", "      drop here")
        self.check_wrong(Unnamed, 10, "deed d 1", "  each h", "    each g", "      drop here")
        self.check_right("deed d 1", "  each h", "    each g", "      say here", "    drop here")
        self.check_wrong(Unnamed, 11, "deed d 1", "  each g", "    each h", "      say here", "    drop here")


class Upwards(Lines):
    def test_deeds_that_ask_or_try(self):
        for word in ("ask", "try"):
            self.check_right("deed d 1", f"  {word} e 0", "deed e 1", "  end")
            self.check_right("deed d 1", f"  {word} f 0", "deed e 1", f"  {word} f 0", "deed f 1", "  end")
            self.check_wrong(Upward, 8, "deed d 1", f"  {word} d 0")
            self.check_wrong(Upward, 10, "deed d 1", "  end", "deed e 1", f"  {word} d 0")
            self.check_wrong(Upward, 11, "deed d 1", "  end", "deed e 1", "  if a = 1", f"    {word} e it")
            self.check_wrong(Upward, 12, "deed d 1", "  end", "deed e 1", "  end", "deed f 1", f"  {word} d 0", *LOW)

    def test_deeds_that_wake(self):
        for word in ("set", "add"):
            self.check_right("deed d 1", f"  {word} a 1", "deed e 1 when a", "  end")
            self.check_right("deed d 1", f"  {word} a 1", "deed e 1 when a", f"  {word} b a", "deed f 1 when b",
                             "  end")
            self.check_wrong(Upward, 8, "deed d 1 when a", f"  {word} a 1")
            self.check_wrong(Upward, 10, "deed d 1 when a", "  end", "deed e 1", f"  {word} a 1")
            self.check_wrong(Upward, 10, "deed d 1 when a", "  end", "deed e 1", f"  {word} a 0", "deed f 1 when a",
                             "  end")
            self.check_wrong(Upward, 10, "deed d 1 blind when m", "  end", "deed e 1 when a", f"  {word} m 1")

    def test_other_keys_and_other_statements_wake_nothing(self):
        self.check_right("deed d 1 when m", "  set a 1", "  drop m", "  say m", "  add b m")
        self.check_right("deed d 1 when m", "  each h", "    drop here", "deed e 1 when n", "  drop n")

    def test_here_stands_for_each_key_of_the_group(self):
        for word in ("set", "add"):
            self.check_right("deed d 1", "  each g", f"    {word} here 1", "deed e 1 when a", "  end",
                             "deed f 1 when m", "  end")
            for key in ("a", "m"):
                self.check_wrong(Upward, 9, f"deed d 1 when {key}", "  each g", f"    {word} here 1")
                self.check_wrong(Upward, 11, f"deed d 1 when {key}", "  end", "deed e 1", "  each g",
                                 f"    {word} here 1")
            self.check_right("deed d 1 when b", "  each g", f"    {word} here 1")
            # The group of the inner `each` counts, and not that of the outer one.
            self.check_right("deed d 1 when a", "  each g", "    each h", f"      {word} here 1")
            self.check_wrong(Upward, 10, "deed d 1 when a", "  each h", "    each g", f"      {word} here 1")
            self.check_wrong(Upward, 11, "deed d 1 when a", "  each g", "    each h", "      end", f"    {word} here 1")


class Sequence(Lines):
    def test_the_first_line_of_each_kind(self):
        self.check_wrong(Unnamed, 8, "deed d 1", "  say x", "  say y", "  ask z 0")
        self.check_wrong(Upward, 8, "deed d 1", "  ask d 0", "  try d 0", "deed e 1", "  ask d 0")
        self.check_wrong(BadBook, 8, "deed d 1", "  say", "  say", "  say -")

    def test_a_block_stands_ahead_of_what_is_behind_it(self):
        self.check_wrong(Unnamed, 9, "deed d 1", "  if a = 1", "    say x", "  else", "    say y", "  say z")
        self.check_wrong(Unnamed, 11, "deed d 1", "  if a = 1", "    say 1", "  else", "    say y", "  say z")
        self.check_wrong(Unnamed, 8, "deed d 1", "  if x = 1", "    say y")
        self.check_wrong(Upward, 9, "deed d 1", "  try e 0", "    ask d 0", "  ask d 0", "deed e 1", "  ask d 0")

    def test_bad_book_ahead_of_unnamed_ahead_of_upward(self):
        bad, unnamed, upward = "  say", "  say x", "  ask d 0"
        for place in range(3):
            lines = [unnamed, upward]
            lines.insert(place, bad)
            self.check_wrong(BadBook, 8 + place, "deed d 1", *lines)
        self.check_wrong(Unnamed, 8, "deed d 1", unnamed, upward)
        self.check_wrong(Unnamed, 9, "deed d 1", upward, unnamed)
        self.check_wrong(Unnamed, 11, "deed d 1", upward, "deed e 1", upward, unnamed)

    def test_bad_book_at_the_end_is_first_too(self):
        self.check_wrong(BadBook, 10, "deed d 1", "  say x", "  ask d 0", "")
        self.check_wrong(BadBook, 11, "deed d 1", "  say x", "  ask d 0", "deed e 1")
        self.check_wrong(BadBook, 11, "deed d 1 when x", "  say x", "  ask d 0", "  if x = 1")

    def test_unnamed_groups_and_keys_ahead_of_statements(self):
        text = lined("key a 2", "key b 2", "group g a xx", "deed d 1 when yy", "  say zz", "  ask d 0")
        for error, number, name in ((Unnamed, 3, "xx"), (Unnamed, 4, "yy"), (Unnamed, 5, "zz")):
            check_refused(self, error, number, Book, text)
            text = text.replace(name, "b")
        check_refused(self, Upward, 6, Book, text)

    def test_one_line_that_is_wrong_in_two_ways(self):
        self.check_wrong(Unnamed, 8, "deed d 1", "  ask d x")
        self.check_wrong(Unnamed, 8, "deed d 1 when a", "  set a x")


class Words(Lines):
    def test_one_name_for_a_key_a_group_and_a_deed(self):
        text = lined("key a 2", "key b 2", "group a b a", "deed a 2", "  each a", "    set a here + it",
                     "  ask b a", "deed b 2", "  say a + b")
        book = Book(text)
        self.assertEqual(book.groups, (("a", ("b", "a")),))
        self.assertEqual(book["a"].size, 2)

    def test_names_that_are_words_of_the_language(self):
        words = ("set", "add", "drop", "say")
        text = lined(
            *[f"may {word} 2" for word in ("has", "key", "end")], "group each has end", "group if key has",
            "deed set 2", "  set has has + end", "  add key key", "  drop end", "  if has has", "    say has",
            "  if has = has", "    ask add has", "  else", "    try refuse 0", "  each each", "    drop here",
            "deed add 1", "  if has != end + has", "    refuse refuse", "deed refuse 1 blind when has",
            "  refuse end",
        )
        self.assertEqual([row[0] for row in Book(text).key_rows], ["has", "key", "end"])
        for word in words + ("else", "when", "blind", "group", "deed", "may", "ask", "try", "refuse", "lacks", "long"):
            text = lined(f"may {word} 2", "may x 2", f"group {word} x {word}", f"deed {word} 1", f"  set {word} {word}",
                         f"  if has {word}", f"    drop {word}", f"  if {word} != {word}", f"    each {word}",
                         f"      add here {word}", f"  ask low {word}", f"deed low 1 blind when {word}", "  end")
            self.assertEqual(Book(text).groups, ((word, ("x", word)),))

    def test_deeds_called_it_and_here(self):
        book = Book(lined("key a 2", "key b 2", "group it a b", "group here b a", "deed d 2", "  ask it it",
                          "  each here", "    try here here", "deed it 2", "  say it", "deed here 2", "  refuse it"))
        self.assertEqual(book["d"].name, "d")


if __name__ == "__main__":
    unittest.main()
