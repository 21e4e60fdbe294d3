"""Point 4: lines that have none of the forms, or cannot stand at their place."""

import unittest

from onlytell.books import Book
from onlytell.errors import BadBook
from tests.helpers import ANY_VALUES, check_refused, lined, nested

RIGHT_KEYS = (
    "key a 2", "key a 3", "may a 2", "may a 3", "key z 2", "key abcdefgh 2", "may abcdefgh 3", "key key 2",
    "key may 2", "may may 2", "key group 2", "key deed 2", "key blind 2", "key when 2", "key set 2", "key has 3",
    "key if 2", "key else 2", "key each 2", "key end 2", "key lacks 2", "key long 2",
)
WRONG_KEYS = (
    "key", "may", "key a", "key 2", "key a 1", "key a 4", "key a 0", "key a 02", "key a 22", "key a -2", "key a +2",
    "key a two", "key a b", "key a 2 2", "key a 2 3", "key a b 2", "key may a 2", "key a 2 may", "key a 2 blind",
    "key A 2", "key aB 2", "key a1 2", "key 1 2", "key a_b 2", "key abcdefghi 2", "may abcdefghi 2", "key \u00e4 2",
    "key a \u00b2", "key a \u0662", "key it 2", "key here 2", "may it 3", "may here 3", "keys a 2", "Key a 2", "a 2",
    "2", "set a 2", "say 1", "end", "else", "if a = 1", "  key a 2", "  set a 1", "key a 2.0", "key a, 2", "key=a 2",
)
RIGHT_GROUPS = (
    "group g a b", "group g b a", "group a a b", "group it a b", "group here a b", "group group a b", "group g b m a",
    "group abcdefgh a m",
)
WRONG_GROUPS = (
    "group", "group g", "group g a", "group a b", "group g a a", "group g a b a", "group g a b b", "group G a b",
    "group g A b", "group g a B", "group g1 a b", "group g a 2", "group g 1 2", "group g a, b", "group g a + b",
    "group abcdefghi a b", "group g a abcdefghi", "groups g a b", "Group g a b", "g a b", "  group g a b",
)
RIGHT_DEEDS = (
    "deed d 1", "deed d 2", "deed d 3", "deed d 1 blind", "deed d 1 when a", "deed d 1 blind when a", "deed a 1",
    "deed it 1", "deed here 1", "deed deed 1", "deed blind 1", "deed blind 1 blind", "deed when 1 when a",
    "deed abcdefgh 3 blind when b", "deed when 2 blind", "deed lacks 1",
)
WRONG_DEEDS = (
    "deed", "deed d", "deed 1", "deed d 0", "deed d 4", "deed d 01", "deed d 11", "deed d -1", "deed d one",
    "deed d 1 1", "deed d 1 2", "deed d e 1", "deed D 1", "deed d1 1", "deed abcdefghi 1", "deed d 1 blind blind",
    "deed d 1 when", "deed d 1 blind when", "deed d 1 when a blind", "deed d 1 when a b", "deed d 1 when A",
    "deed d 1 when 1", "deed d 1 when a when b", "deed d 1 when abcdefghi", "deed d 1 Blind", "deed d 1 blinds",
    "deed d 1 a", "deed d 1 blind a", "deed d blind 1", "deed blind d 1", "deed d when a 1", "deeds d 1", "Deed d 1",
    "  deed d 1", "deed d",
)
RIGHT_STATEMENTS = (
    "set a 0", "set a 1", "set a 10", "set a 999", "set a it", "set a a", "set a b", "set a 1 + 1", "set a it + a",
    "set a a + it", "set a a + b", "set a 999 + 0", "set m 1", "add a 0", "add m 1 + m", "add b it", "drop m",
    "say 0", "say 999", "say it", "say a", "say m + 1", "say it + it", "ask low 0", "ask low it", "ask low a + 1",
    "try low 0", "try low it + b", "try low 999", "refuse no", "refuse it", "refuse here", "refuse abcdefgh",
    "refuse refuse", "refuse lack", "refuse longs", "refuse a", "end",
)
RIGHT_HEADS = (
    "if a = b", "if a != b", "if 1 = 1", "if it = 0", "if 0 != it", "if a + b = 2", "if 2 != a + b",
    "if a + 1 = b + it", "if has a", "if has m", "each g", "try low 0", "try low a + it",
)
WRONG_STATEMENTS = (
    # A word less, or more.
    "set", "set a", "set 1", "set a 1 +", "set a + 1", "set a 1 1", "set a 1 + 1 1", "set a 1 + 1 + 1", "set a b 1",
    "add", "add a", "add 1", "add a 1 2", "add a +", "drop", "drop m m", "drop m 1", "say", "say 1 1", "say 1 +",
    "say + 1", "say +", "say 1 + 1 + 1", "say a b", "ask", "ask low", "ask 0", "ask low 0 0", "ask low 0 +", "try",
    "try low", "try 0", "try low 0 1", "refuse", "refuse no no", "refuse no 1", "end end", "end 1", "end a",
    # Another word.
    "sets a 1", "Set a 1", "SET a 1", "subtract a 1", "a", "1", "a = 1", "set a = 1", "set a - 1", "set a 1 - 1",
    "set a 1 * 2", "say -1", "say +1", "say 1+1", "say a+b", "say (a)", "say 'a'", "say a.", "say a,", "pass",
    "key a 2", "may a 2", "group g a b", "deed e 1", "when a", "blind", "has a", "it", "here",
    # Another number.
    "say 1000", "say 0999", "say 00", "say 01", "say 000", "say 1.0", "say 1e1", "say 0x1", "say 12345", "say \u0661",
    "say \u00b9", "set a 1000", "set a 01", "set a 1 + 01", "set a 01 + 1", "add a 1000", "ask low 1000",
    "ask low 00", "try low 05", "try low 1 + 1000",
    # Another name.
    "set A 1", "set a1 1", "set abcdefghi 1", "set a A", "set a abcdefghi", "set a b1", "set a a_b", "add A 1",
    "add a abcdefghi", "drop M", "drop 1", "drop abcdefghi", "say A", "say abcdefghi", "say a1", "ask Low 0",
    "ask abcdefghi 0", "ask 1 0", "try LOW 0", "try low A", "refuse No", "refuse 1", "refuse abcdefghi", "refuse n1",
    "refuse lacks", "refuse long", "set 1 1", "add 1 1",
)
WRONG_HEADS = (
    "if", "if a", "if a b", "if a =", "if = a", "if a = = b", "if a == b", "if a <> b", "if a < b", "if a ! = b",
    "if a = b = a", "if a = b != a", "if a != ", "if a + = b", "if + a = b", "if a = b +", "if a = + b", "if a + b",
    "if a + b + 1 = 2", "if a = 1 + 1 + 1", "if a b = 1", "if a = 1 1", "if A = 1", "if a = B", "if a = 1000",
    "if 01 = a", "if has", "if has 1", "if has A", "if has a b", "if has a = 1", "if not has a", "if has abcdefghi",
    "if a1 = 1", "if a = abcdefghi", "If a = b", "if a=b", "if (a = b)", "else", "else 1", "else if a = b",
    "each", "each g g", "each 1", "each G", "each a b", "each abcdefghi", "Each g", "each g 1", "for g",
)

KEYS = ("key a 2", "may m 3", "key b 2")


def check_right(case, *lines):
    book = Book(lined(*lines))
    case.assertEqual(book.text, "\n".join(lines))


def check_bad(case, number, *lines):
    with case.subTest(lines=lines):
        check_refused(case, BadBook, number, Book, lined(*lines))


def blanks_more_or_less(line):
    """The line with a blank more or less, at each place where one can be."""
    words = line.split(" ")
    for place in range(len(words) - 1):
        yield " ".join(words[:place + 1]) + "  " + " ".join(words[place + 1:])
        yield " ".join(words[:place + 1]) + "\t" + " ".join(words[place + 1:])
    yield from (line + " ", line + "  ", " " + line, "   " + line, "\t" + line, line + "\t", line + "\r", line + "\x0b")


class FormsOfLines(unittest.TestCase):
    def test_keys(self):
        for line in RIGHT_KEYS:
            check_right(self, line, "deed d 1", "  end")
            check_right(self, "key q 2", line, "deed d 1", "  end")
        for line in WRONG_KEYS:
            check_bad(self, 1, line, "key q 2", "deed d 1", "  end")
            check_bad(self, 2, "key q 2", line, "deed d 1", "  end")

    def test_groups(self):
        for line in RIGHT_GROUPS:
            check_right(self, *KEYS, line, "deed d 1", "  end")
        for line in WRONG_GROUPS:
            check_bad(self, 4, *KEYS, line, "deed d 1", "  end")
            check_bad(self, 5, *KEYS, "group first a b", line, "deed d 1", "  end")

    def test_deeds(self):
        for line in RIGHT_DEEDS:
            check_right(self, *KEYS, line, "  end")
            check_right(self, *KEYS, "group g a b", "deed first 1", "  end", line, "  end")
        for line in WRONG_DEEDS:
            check_bad(self, 4, *KEYS, line, "  end")
            check_bad(self, 6, *KEYS, "deed first 1", "  end", line, "  end")

    def test_statements(self):
        for line in RIGHT_STATEMENTS:
            check_right(self, *KEYS, "deed d 2", "  " + line, "deed low 1", "  end")
            check_right(self, *KEYS, "deed d 2", "  end", "  if a = 1", "    " + line, "  end", "deed low 1", "  end")
        for line in WRONG_STATEMENTS:
            check_bad(self, 5, *KEYS, "deed d 2", "  " + line, "deed low 1", "  end")
            check_bad(self, 6, *KEYS, "deed d 2", "  end", "  " + line, "deed low 1", "  end")

    def test_statements_with_blocks(self):
        for line in RIGHT_HEADS:
            lines = ("deed d 2", "  " + line, "    end", "deed low 1", "  end")
            check_right(self, *KEYS, "group g a b", *lines)
        for line in WRONG_HEADS:
            lines = ("deed d 2", "  " + line, "    end", "deed low 1", "  end")
            check_bad(self, 6, *KEYS, "group g a b", *lines)

    def test_blanks_in_each_form_of_a_line(self):
        lines = KEYS + ("group g a b", "deed d 2 blind when a", "  if a + 1 != it", "    set m 1 + it", "  else",
                        "    drop m", "  each g", "    say here", "  try low a", "    ask low it", "  refuse no",
                        "deed low 1", "  end")
        check_right(self, *lines)
        for place, line in enumerate(lines):
            for other in blanks_more_or_less(line):
                check_bad(self, place + 1, *lines[:place], other, *lines[place + 1:])

    def test_empty_lines_and_lines_of_blanks(self):
        lines = KEYS + ("group g a b", "deed d 2", "  if a = 1", "    end", "  else", "    end", "deed low 1", "  end")
        for place in range(len(lines) + 1):
            for empty in ("", " ", "  ", "   ", "    ", "      ", "\t"):
                check_bad(self, place + 1, *lines[:place], empty, *lines[place:])

    def test_values_that_are_no_strings(self):
        for value in ANY_VALUES + (nested(30), b"key a 2\ndeed d 1\n  end", ["key a 2", "deed d 1", "  end"]):
            if not isinstance(value, str):
                check_refused(self, BadBook, 0, Book, value)

    def test_strings_that_are_no_books(self):
        for text in ("", "\n", " ", "0", "a", "key a 2\r\ndeed d 1\r\n  end", "\u2028", "\x00"):
            check_refused(self, BadBook, 1, Book, text)


class Places(unittest.TestCase):
    def test_lines_in_a_wrong_part_of_the_book(self):
        check_bad(self, 1, "group g a b", *KEYS, "deed d 1", "  end")
        check_bad(self, 1, "deed d 1", "  end")
        check_bad(self, 5, *KEYS, "group g a b", "key c 2", "deed d 1", "  end")
        check_bad(self, 5, *KEYS, "group g a b", "may c 2", "deed d 1", "  end")
        check_bad(self, 6, *KEYS, "deed d 1", "  end", "key c 2")
        check_bad(self, 6, *KEYS, "deed d 1", "  end", "group g a b")
        check_bad(self, 5, *KEYS, "deed d 1", "group g a b", "  end")
        check_bad(self, 5, *KEYS, "deed d 1", "deed e 1", "  end")
        check_bad(self, 4, *KEYS, "  end", "deed d 1", "  end")
        check_bad(self, 5, *KEYS, "group g a b", "  end", "deed d 1", "  end")
        check_bad(self, 6, *KEYS, "deed d 1", "  if a = 1", "deed e 1", "  end")
        check_bad(self, 6, *KEYS, "deed d 1", "  end", "end")
        check_bad(self, 6, *KEYS, "deed d 1", "  end", "else")

    def test_names_that_stand_twice(self):
        check_bad(self, 2, "key a 2", "key a 2", "deed d 1", "  end")
        check_bad(self, 3, "key a 2", "key b 2", "may a 3", "deed d 1", "  end")
        check_bad(self, 5, *KEYS, "group g a b", "group g b m", "deed d 1", "  end")
        check_bad(self, 6, *KEYS, "deed d 1", "  end", "deed d 2 blind", "  end")
        check_right(self, "key a 2", "key b 2", "group a a b", "deed a 1", "  each a", "    set a a + here")

    def test_a_line_left_out(self):
        lines = ("key a 2", "deed d 1", "  if a = 1", "    say 1", "  else", "    say 2", "  try e 0", "    say 3",
                 "deed e 1", "  end")
        check_right(self, *lines)
        bad = {0: 1, 1: 2, 2: 3, 3: 4, 5: 6, 9: 10}
        for place, number in bad.items():
            check_bad(self, number, *lines[:place], *lines[place + 1:])
        # Without the line ahead of them, these lines go on with the block above.
        for place in (4, 7):
            check_right(self, *lines[:place], *lines[place + 1:])
        check_right(self, *lines[:6], *lines[7:])

    def test_a_line_doubled(self):
        lines = ("key a 2", "key b 2", "group g a b", "deed d 1", "  if a = 1", "    say 1", "  else", "    say 2",
                 "  each g", "    say 3", "  try e 0", "    say 4", "deed e 1", "  end")
        check_right(self, *lines)
        right = (5, 7, 9, 10, 11, 13)
        for place, line in enumerate(lines):
            doubled = lines[:place + 1] + lines[place:]
            if place in right:
                check_right(self, *doubled)
            else:
                check_bad(self, place + 2, *doubled)

    def test_lines_exchanged(self):
        lines = ("key a 2", "group g a b", "deed d 1", "  if a = 1", "    say 1", "  else", "    say 2", "deed e 1")
        check_bad(self, 1, lines[1], lines[0], *lines[2:])
        check_bad(self, 3, lines[0], lines[2], lines[1], *lines[3:])
        check_bad(self, 3, *lines[:2], lines[3], lines[2], *lines[4:])
        check_bad(self, 4, *lines[:3], lines[4], lines[3], *lines[5:])
        check_bad(self, 5, *lines[:4], lines[5], lines[4], *lines[6:])
        check_bad(self, 8, *lines[:5], lines[6], lines[5], *lines[7:])
        check_bad(self, 7, *lines[:6], lines[7], lines[6])

    def test_each_beginning_of_a_book_is_right_or_misses_the_next_line(self):
        lines = ("key a 2", "key b 2", "group g a b", "deed d 1", "  say 1", "  if a = 1", "    if b = 1",
                 "      say 2",
                 "    else", "      say 3", "  else", "    each g", "      say 4", "  try e 0", "    try e 0",
                 "      try e 0", "  say 5", "deed e 1", "  end")
        needs_more = (1, 2, 3, 4, 6, 7, 9, 11, 12, 18)
        for many in range(1, len(lines) + 1):
            if many in needs_more:
                check_bad(self, many + 1, *lines[:many])
            elif "e" in [line.split()[1] for line in lines[:many] if line.startswith("deed")] or many < 14:
                check_right(self, *lines[:many])

    def test_a_line_missing_at_the_end(self):
        check_bad(self, 2, "key a 2")
        check_bad(self, 4, *KEYS)
        check_bad(self, 5, *KEYS, "group g a b")
        check_bad(self, 5, *KEYS, "deed d 1")
        check_bad(self, 6, *KEYS, "deed d 1", "  if a = 1")
        check_bad(self, 8, *KEYS, "deed d 1", "  if a = 1", "    end", "  else")
        check_bad(self, 7, *KEYS, "group g a b", "deed d 1", "  each g")
        check_right(self, *KEYS, "deed d 1", "  try low 0", "deed low 1", "  end")
        check_bad(self, 7, *KEYS, "deed d 1", "  end", "deed e 1")
        check_bad(self, 6, *KEYS, "deed d 1", "  end", "")


class Depths(unittest.TestCase):
    def test_a_block_must_begin_two_blanks_deeper(self):
        for head in ("if a = 1", "each g"):
            for blanks in (0, 1, 2, 3, 5, 6, 8):
                lines = KEYS + ("group g a b", "deed d 1", "  " + head, " " * blanks + "end")
                check_bad(self, 7, *lines)
            check_right(self, *KEYS, "group g a b", "deed d 1", "  " + head, "    end")
        for blanks in (0, 1, 3, 4, 6):
            check_bad(self, 5, *KEYS, "deed d 1", " " * blanks + "end")
        for blanks in (0, 1, 2, 3, 5, 6):
            check_bad(self, 8, *KEYS, "deed d 1", "  if a = 1", "    end", "  else", " " * blanks + "end")

    def test_a_line_too_deep(self):
        for blanks in (3, 4, 5, 6, 8):
            check_bad(self, 6, *KEYS, "deed d 1", "  set a 1", " " * blanks + "end")
        for blanks in (5, 6, 8):
            check_bad(self, 7, *KEYS, "deed d 1", "  if a = 1", "    set a 1", " " * blanks + "end")
            check_bad(self, 6, *KEYS, "deed d 1", "  try low 0", " " * blanks + "end", "deed low 1", "  end")
        check_bad(self, 8, *KEYS, "deed d 1", "  if a = 1", "    set a 1", "  set a 1", "    end")

    def test_a_block_below_a_try_may_be_left_out(self):
        low = ("deed low 1", "  end")
        check_right(self, *KEYS, "deed d 1", "  try low 0", *low)
        check_right(self, *KEYS, "deed d 1", "  try low 0", "  try low 0", "    end", "  end", *low)
        check_right(self, *KEYS, "deed d 1", "  try low 0", "    try low 0", "      try low 0", "  end", *low)
        check_right(self, *KEYS, "deed d 1", "  try low 0", "    try low 0", "    end", *low)

    def test_three_deep(self):
        low = ("deed low 1", "  end")
        for head in ("if a = 1", "each g", "try low 0"):
            upper = KEYS + ("group g a b", "deed d 1", "  " + head, "    " + head)
            check_right(self, *upper, "      end", *low)
            check_right(self, *upper, "      try low 0", *low)
            check_right(self, *upper, "      try low 0", "      end", "    end", "  end", *low)
            check_bad(self, 8, *upper, "      if a = 1", "        end", *low)
            check_bad(self, 8, *upper, "      if a = 1", "      end", *low)
            check_bad(self, 8, *upper, "      each g", "        end", *low)
            check_bad(self, 9, *upper, "      try low 0", "        end", *low)
            check_bad(self, 9, *upper, "      end", "        end", *low)


class Else(unittest.TestCase):
    def check_at(self, number, *statements):
        """That the line of the statements with this number, from 1, is bad, or none for 0."""
        lines = KEYS + ("group g a b", "deed d 1") + statements + ("deed low 1", "  end")
        if number == 0:
            check_right(self, *lines)
        else:
            check_bad(self, 5 + number, *lines)

    def test_behind_the_block_of_an_if(self):
        self.check_at(0, "  if a = 1", "    end", "  else", "    end")
        self.check_at(0, "  if a = 1", "    say 1", "    say 2", "  else", "    end", "  end")
        self.check_at(0, "  if has a", "    if a = 1", "      end", "    else", "      end", "  else", "    end")
        self.check_at(0, "  if a = 1", "    if b = 1", "      end", "  else", "    end")
        self.check_at(0, "  each g", "    if here = 1", "      end", "    else", "      end")
        self.check_at(0, "  try low 0", "    if a = 1", "      end", "    else", "      end")
        self.check_at(0, "  if a = 1", "    try low 0", "  else", "    end")
        self.check_at(0, "  if a = 1", "    try low 0", "      end", "  else", "    end")
        self.check_at(0, "  if a = 1", "    each g", "      end", "  else", "    end")
        self.check_at(0, "  if a = 1", "    end", "  else", "    if b = 1", "      end", "    else", "      end")
        self.check_at(0, "  if a = 1", "    end", "  if a = 1", "    end", "  else", "    end")

    def test_where_no_if_is_ahead(self):
        self.check_at(1, "  else", "    end")
        self.check_at(2, "  end", "  else", "    end")
        self.check_at(2, "  set a 1", "  else", "    end")
        self.check_at(3, "  each g", "    end", "  else", "    end")
        self.check_at(3, "  try low 0", "    end", "  else", "    end")
        self.check_at(2, "  try low 0", "  else", "    end")
        self.check_at(2, "  try low 0", "    else", "      end")
        self.check_at(4, "  if a = 1", "    end", "  end", "  else", "    end")

    def test_as_deep_as_the_if(self):
        self.check_at(3, "  if a = 1", "    end", "    else", "      end")
        self.check_at(3, "  if a = 1", "    end", "else", "    end")
        self.check_at(3, "  if a = 1", "    end", "      else", "        end")
        self.check_at(2, "  if a = 1", "  else", "    end")
        self.check_at(2, "  if a = 1", "    else", "      end")
        self.check_at(3, "  if a = 1", "    if b = 1", "    else", "      end")
        self.check_at(4, "  each g", "    if here = 1", "      end", "  else", "    end")
        self.check_at(4, "  if a = 1", "    if b = 1", "      end", "      else", "        end")

    def test_once_for_each_if(self):
        self.check_at(5, "  if a = 1", "    end", "  else", "    end", "  else", "    end")
        self.check_at(7, "  if a = 1", "    if b = 1", "      end", "    else", "      end", "  else", "  else")
        self.check_at(6, "  if a = 1", "    if b = 1", "      end", "    else", "      end", "    else", "      end")
        self.check_at(4, "  if a = 1", "    end", "  else", "  end")
        self.check_at(4, "  if a = 1", "    end", "  else", "  else", "    end")
        both = ("  if a = 1", "    end", "  else", "    end")
        self.check_at(0, *both, *both)
        self.check_at(0, "  end", *both, "  end", *both)
        self.check_at(9, *both, *both, "  else", "    end")
        self.check_at(7, "  if a = 1", "    end", *both, "  else", "    end")


class Bounds(unittest.TestCase):
    def test_keys(self):
        four = ("key a 2", "key b 2", "key c 2", "key d 2")
        check_right(self, *four, "deed x 1", "  end")
        check_bad(self, 5, *four, "key e 2", "deed x 1", "  end")
        check_bad(self, 5, *four, "may e 2", "deed x 1", "  end")

    def test_groups(self):
        two = KEYS + ("group g a b", "group h m b")
        check_right(self, *two, "deed x 1", "  end")
        check_bad(self, 6, *two, "group i a m", "deed x 1", "  end")

    def test_deeds(self):
        lines = KEYS + tuple(line for name in "abcde" for line in (f"deed {name} 1", "  end"))
        check_right(self, *lines)
        check_bad(self, 14, *lines, "deed f 1", "  end")

    def test_stores(self):
        # 3 * 3 * 3 * 2 = 54, 4 * 4 * 3 = 48
        for keys in (("key a 3", "key b 3", "key c 3", "key d 2"), ("may a 3", "may b 3", "key c 3"),
                     ("may a 2", "may b 2", "key c 3", "key d 2")):
            check_right(self, *keys, "deed x 1", "  end")
        # 4 * 4 * 4 = 64, 3 * 3 * 3 * 3 = 81, 4 * 4 * 2 * 2 = 64, 2 * 3 * 4 * 3 = 72
        check_bad(self, 3, "may a 3", "may b 3", "may c 3", "deed x 1", "  end")
        check_bad(self, 4, "key a 3", "key b 3", "key c 3", "key d 3", "deed x 1", "  end")
        check_bad(self, 4, "key a 3", "may b 2", "key c 3", "may d 2", "deed x 1", "  end")
        check_bad(self, 4, "may a 3", "key b 2", "may c 3", "key d 2", "deed x 1", "  end")
        check_bad(self, 4, "key a 2", "key b 3", "may c 3", "may d 2", "key e 2")

    def test_letters(self):
        right = KEYS + ("deed a 3", "  end", "deed b 3", "  end", "deed c 2", "  end")
        check_right(self, *right)
        check_bad(self, 8, *KEYS, "deed a 3", "  end", "deed b 3", "  end", "deed c 3", "  end")
        check_bad(self, 10, *right, "deed d 1", "  end")

    def test_statements_of_a_block(self):
        eight = ["  say 1"] * 8
        check_right(self, *KEYS, "deed d 1", *eight)
        check_bad(self, 13, *KEYS, "deed d 1", *eight, "  say 1")
        check_bad(self, 13, *KEYS, "deed d 1", *eight, "  if a = 1", "    say 1")
        deeper = ["    say 1"] * 8
        check_right(self, *KEYS, "deed d 1", "  if a = 1", *deeper, "  else", *deeper)
        check_bad(self, 14, *KEYS, "deed d 1", "  if a = 1", *deeper, "    say 1")
        check_bad(self, 23, *KEYS, "deed d 1", "  if a = 1", *deeper, "  else", *deeper, "    say 1")
        check_bad(self, 15, *KEYS, "group g a b", "deed d 1", "  each g", *deeper, "    say 1")
        check_bad(self, 14, *KEYS, "deed d 1", "  try low 0", *deeper, "    say 1", "deed low 1", "  end")
        # Statements that stand deeper are not counted, and neither is `else`.
        check_right(self, *KEYS, "deed d 1", *["  say 1"] * 7, "  if a = 1", *deeper, "  else", "    say 1")

    def test_statements_of_a_book(self):
        eight = ["  say 1"] * 8
        lines = KEYS + ("deed d 1", *eight, "deed e 1", *eight, "deed f 1", *eight)
        check_right(self, *lines)
        check_bad(self, 32, *lines, "deed g 1", "  say 1")
        nested_lines = ("deed d 1", "  if a = 1", *["    say 1"] * 8, "  else", *["    say 1"] * 8, "  say 1")
        check_right(self, *KEYS, *nested_lines, "deed e 1", *["  say 1"] * 6)
        check_bad(self, 31, *KEYS, *nested_lines, "deed e 1", *["  say 1"] * 7)


if __name__ == "__main__":
    unittest.main()
