"""Point 17, the second part, and guarantee (f): whether hands act in turn."""

import unittest

from onlytell.books import Book
from onlytell.errors import BadHands
from onlytell.hands import in_turn, shows_in_turn
from onlytell.stamps import reads
from tests.hand_oracles import (
    WRONG_HANDS, after, all_steps, fewest, is_mixed, is_right_mixed, reached,
)
from tests.helpers import ANY_VALUES, check_refused, lined, nested, same, three_keys
from tests.oracles import changed
from tests.samples import BOTH, FLIP, GONE, PAIR, SAMPLES, WAKING

ONE, TWO = (("one", 0),), (("two", 0),)
NEW = ("new",)
LOOK_0, LOOK_1, PUT_0, PUT_1 = ("look", 0), ("look", 1), ("put", 0), ("put", 1)

SAY = lined("key a 2", "deed put 1", "  set a 1", "deed tell 1", "  say a")
PUT, TELL = (("put", 0),), (("tell", 0),)


def all_read(book, row):
    """All keys that the row reads, from whatever store."""
    return tuple(sorted({key for store in book.stores for key in reads(book, store, row)}))


def expected_table(book, hands):
    return tuple(sorted((store,) + state for store in book.stores for state in reached(book, hands, store)))


def hands_of(book):
    """Hands of many kinds: one to three, which check nothing, something, and all that they read."""
    letters = book.letters
    rows = [(letters[0],), (letters[-1],), (letters[0], letters[-1]), (letters[-1], letters[len(letters) // 2])]
    yield ((rows[2], ()),)
    yield ((rows[0], ()), (rows[1], ()))
    yield tuple((row, all_read(book, row)) for row in rows[:2])
    yield tuple((row, all_read(book, row)) for row in (rows[2], rows[3]))
    yield ((rows[2], all_read(book, rows[2])[:1]), (rows[0], ()))
    yield ((rows[3], ()), (rows[1], all_read(book, rows[1])))


class InTurn(unittest.TestCase):
    def check_in_turn(self, book, hands):
        """That the answer is one that `ran` gives, and that it is shown; returns its word, or a length."""
        answer = in_turn(book, hands)
        first = next(((store, fewest(book, hands, store)) for store in book.stores
                      if fewest(book, hands, store) is not None), None)
        with self.subTest(book=book.text, hands=hands):
            if first is None:
                self.assertTrue(same(answer, ("turns", expected_table(book, hands))))
            else:
                self.assertTrue(same(answer[:2], ("mixed", first[0])), answer)
                self.assertEqual(len(answer[2]), first[1])
                self.assertTrue(is_right_mixed(book, hands, answer))
            self.assertIs(shows_in_turn(book, hands, answer), True)
            self.assertTrue(same(in_turn(Book(book.text), hands), answer))
        return "turns" if first is None else first[1]

    def test_each_book(self):
        words = [self.check_in_turn(book,
                                    hands) for book in SAMPLES if len(book.stores) < 30 for hands in hands_of(book)]
        self.assertGreater(min(words.count("turns"), words.count(4)), 5)

    def test_three_hands(self):
        words = []
        for book in (Book(BOTH), Book(PAIR), Book(SAY)):
            rows = [(letter,) for letter in book.letters] + [book.letters[:1]]
            for keys in (lambda row: (), lambda row: all_read(book, row), lambda row: all_read(book, row)[:1]):
                words.append(self.check_in_turn(book, tuple((row, keys(row)) for row in rows[:3])))
        self.assertGreater(words.count("turns"), 2)
        self.assertGreater(len(words) - words.count("turns"), 0)

    def test_one_hand_always_acts_in_turn(self):
        for book in SAMPLES:
            for letter in book.letters:
                for keys in ((), all_read(book, (letter,))):
                    word, table = in_turn(book, (((letter,), keys),))
                    # Each is new, has looked, or is done.
                    self.assertEqual((word, len(table)), ("turns", 3 * len(book.stores)))

    def test_hands_that_check_all_that_they_read_act_in_turn(self):
        for book in SAMPLES:
            if len(book.stores) < 20:
                rows = [book.letters[:1], book.letters[-1:], (book.letters[-1], book.letters[0])]
                for one in rows:
                    for other in rows:
                        self.assertEqual(in_turn(book, ((one, all_read(book, one)), (other, all_read(book, other))))[0],
                                         "turns")

    def test_the_first_store_and_fewest_steps(self):
        book = Book(BOTH)
        word, store, steps = in_turn(book, ((ONE, ()), (TWO, ())))
        self.assertEqual((word, store, len(steps)), ("mixed", (0, 0), 4))
        self.assertEqual((sorted(steps[:2]), sorted(steps[2:])), ([LOOK_0, LOOK_1], [PUT_0, PUT_1]))
        # With one check, the hand that does not check must put last.
        self.assertEqual(in_turn(book, ((ONE, ("a",)), (TWO, ())))[2][2:], (PUT_0, PUT_1))
        self.assertEqual(in_turn(book, ((ONE, ()), (TWO, ("b",))))[2][2:], (PUT_1, PUT_0))
        self.assertEqual(in_turn(book, ((ONE, ("a",)), (TWO, ("b",))))[0], "turns")
        # The keys that a hand sets do not help.
        self.assertEqual(in_turn(book, ((ONE, ("b",)), (TWO, ("a",))))[:2], ("mixed", (0, 0)))

    def test_a_later_store_is_the_first_one(self):
        book = Book(lined("key c 2", *BOTH.split("\n")).replace("if a = 0\n", "if a = 0\n    ask low 0\n").replace(
            "    ask low 0\n    set b 1", "    if c = 1\n      set b 1"))
        word, store, steps = in_turn(book, ((ONE, ()), (TWO, ())))
        self.assertEqual((word, store), ("mixed", (1, 0, 0)))

    def test_what_is_told_counts_and_not_only_the_store(self):
        book = Book(SAY)
        # From (0,), tell may look, put be done, tell be done: as if tell had been first.
        self.assertEqual(in_turn(book, ((PUT, ()), (TELL, ())))[0], "turns")
        two = lined("key a 3", "deed put 1", "  say a", "  set a 1", "deed tell 1", "  say a", "  set a 2")
        self.assertEqual(in_turn(Book(two), ((PUT, ()), (TELL, ())))[0], "mixed")
        self.assertEqual(in_turn(Book(two), ((PUT, ("a",)), (TELL, ("a",))))[0], "turns")

    def test_the_store_counts_and_not_only_what_is_told(self):
        # Both tell the same from all stores, but what is dropped and set depends on who puts last.
        book = Book(lined("key a 3", "deed one 1", "  set a 1", "deed two 1", "  set a 2"))
        self.assertEqual(in_turn(book, ((ONE, ()), (TWO, ())))[0], "turns")
        book = Book(lined("key a 3", "key b 2", "deed one 2", "  if a = 2", "    set b it", "  else", "    set a 1",
                          "    set b it"))
        hands = (((("one", 0),), ()), ((("one", 1),), ()))
        self.check_in_turn(book, hands)
        # a is set to 1 ahead of 2, and b likewise: as in no turn, though each telling is right for its place.
        book = Book(lined("key a 2", "key b 2", "deed one 1", "  set a 0", "  set b 0", "deed two 1", "  set a 1",
                          "  set b 1"))
        self.assertEqual(self.check_in_turn(book, ((ONE, ()), (TWO, ()))), "turns")

    def test_failed_puts_are_no_end(self):
        book = Book(GONE)
        off = (("off", 0),)
        self.check_in_turn(book, ((off, ()), (off, ())))
        self.check_in_turn(book, ((off, ()), ((("put", 1),), ("n",))))
        self.check_in_turn(book, ((off, ("m", "n")), (off, ("m", "n"))))

    def test_deeds_that_wake_others(self):
        book = Book(WAKING)
        for keys in ((), ("a",), ("a", "b", "m")):
            self.check_in_turn(book, (((("put", 1),), keys), ((("put", 2),), keys)))

    def test_at_most_119_members_for_each_first_store(self):
        for book in (Book(BOTH), Book(PAIR)):
            hands = ((book.letters[:1], ()), (book.letters[1:], ()), (book.letters[:1], ("a", "b")))
            for store in book.stores:
                self.assertLessEqual(len(reached(book, hands, store)), 119)
            self.check_in_turn(book, hands)

    def test_by_the_names_of_the_arguments(self):
        hands = ((ONE, ()), (TWO, ()))
        answer = in_turn(hands=hands, book=Book(BOTH))
        self.assertIs(shows_in_turn(value=answer, hands=hands, book=Book(BOTH)), True)

    def test_bad_hands(self):
        for value in WRONG_HANDS:
            with self.subTest(value=value):
                check_refused(self, BadHands, value, in_turn, three_keys(), value)
                check_refused(self, BadHands, value, shows_in_turn, three_keys(), value, None)


class ShownMixed(unittest.TestCase):
    HANDS = ((ONE, ()), (TWO, ()))

    def check_shown(self, expected, hands, value, text=BOTH):
        self.assertIs(shows_in_turn(Book(text), hands, value), expected, (hands, value))

    def test_each_change_of_an_answer(self):
        book = Book(BOTH)
        for hands in (self.HANDS, ((ONE, ("a",)), (TWO, ())), ((TWO, ()), (ONE, ()), (ONE, ("a",)))):
            answer = in_turn(book, hands)
            self.assertEqual(answer[0], "mixed")
            for value in changed(answer):
                self.check_shown(is_right_mixed(book, hands, value), hands, value)

    def test_any_store_and_any_steps(self):
        for store, steps, right in (
            ((0, 0), (LOOK_0, LOOK_1, PUT_0, PUT_1), True), ((0, 0), (LOOK_0, LOOK_1, PUT_1, PUT_0), True),
            ((0, 0), (LOOK_1, LOOK_0, LOOK_0, LOOK_1, PUT_1, PUT_0), True),
            ((0, 0), (LOOK_0, PUT_0, LOOK_1, PUT_1), False),
            ((0, 0), (LOOK_0, LOOK_1, PUT_0), False), ((0, 0), (), False), ((0, 0), (PUT_0, PUT_1), False),
            ((0, 0), (LOOK_0, LOOK_1, PUT_0, PUT_1, LOOK_0), False), ((0, 0), (LOOK_0, LOOK_1, PUT_0, PUT_0), False),
            ((0, 0), (LOOK_0,) * 40 + (LOOK_1, PUT_0, PUT_1), True), ((0, 1), (LOOK_0, LOOK_1, PUT_0, PUT_1), False),
            ((0, 0), [LOOK_0, LOOK_1, PUT_0, PUT_1], False), ((0, 0), (LOOK_0, LOOK_1, PUT_0, ("put", True)), False),
            ((0, 0), (("look", False), LOOK_1, PUT_0, PUT_1), False),
            ((0, 0), (["look", 0], LOOK_1, PUT_0, PUT_1), False),
            ([0, 0], (LOOK_0, LOOK_1, PUT_0, PUT_1), False), ((0, False), (LOOK_0, LOOK_1, PUT_0, PUT_1), False),
            ((0, 2), (LOOK_0, LOOK_1, PUT_0, PUT_1), False), ((0,), (LOOK_0, LOOK_1, PUT_0, PUT_1), False),
            ((0, 0), (LOOK_0, LOOK_1, PUT_0, PUT_1, None), False), (None, (LOOK_0, LOOK_1, PUT_0, PUT_1), False),
            ((0, 0), None, False), ((0, 0), LOOK_0, False), ((0, 0), "look", False), ((0, 0), {}, False),
        ):
            self.check_shown(right, self.HANDS, ("mixed", store, steps))
            self.check_shown(False, self.HANDS, ("turns", store, steps))
            self.check_shown(False, self.HANDS, ("mixed", store, steps, ()))
            self.check_shown(False, self.HANDS, (None, store, steps))
            self.check_shown(False, self.HANDS, (["mixed"], store, steps))

    def test_another_store_than_the_first_one(self):
        # Here two is told what it would do by any c.
        book = Book(lined("key a 2", "key b 2", "key c 2", *BOTH.split("\n")[2:]))
        hands, steps = self.HANDS, (LOOK_0, LOOK_1, PUT_0, PUT_1)
        self.assertEqual(in_turn(book, hands)[1], (0, 0, 0))
        self.check_shown(True, hands, ("mixed", (0, 0, 0), steps), book.text)
        self.check_shown(True, hands, ("mixed", (0, 0, 1), steps), book.text)
        self.check_shown(False, hands, ("mixed", (0, 1, 1), steps), book.text)

    def test_steps_to_where_all_have_acted_in_turn(self):
        hands = ((ONE, ("a",)), (TWO, ("b",)))
        for steps in ((LOOK_0, LOOK_1, PUT_0, PUT_1, LOOK_1, PUT_1), (LOOK_0, PUT_0, LOOK_1, PUT_1),
                      (LOOK_0, LOOK_1, PUT_0, PUT_1)):
            self.check_shown(False, hands, ("mixed", (0, 0), steps))


class ShownTurns(unittest.TestCase):
    HANDS = ((PUT, ()), (TELL, ("a",)))

    def check_shown(self, expected, hands, value, text=SAY):
        self.assertIs(shows_in_turn(Book(text), hands, value), expected, (hands, value))

    def is_closed(self, book, hands, members):
        """Whether members of the right form show that the hands act in turn."""
        if not all((store, store, (NEW,) * len(hands)) in members for store in book.stores):
            return False
        for first, store, marks in members:
            if is_mixed(book, hands, first, (store, marks)):
                return False
            for step in all_steps(hands):
                later = after(book, hands, (store, marks), step)
                if later is not None and (first,) + later not in members:
                    return False
        return True

    def test_each_change_of_an_answer(self):
        for text, hands in ((SAY, self.HANDS), (SAY, ((TELL, ("a",)),)), (BOTH, ((ONE, ("b",)),)),
                            (GONE, (((("off", 0),), ("m",)),))):
            book = Book(text)
            word, table = in_turn(book, hands)
            self.assertEqual(word, "turns")
            self.assertTrue(self.is_closed(book, hands, set(table)))
            # Each change of a few members, and of the whole.
            few = table if len(table) < 30 else table[:4] + table[len(table) // 2:len(table) // 2 + 4]
            for number, member in enumerate(few):
                place = table.index(member)
                for other in changed(member):
                    value = table[:place] + (other,) + table[place + 1:]
                    self.check_shown(same(value, table), hands, (word, value), text)
                for value in (table[:place] + table[place + 1:], table[:place + 1] + table[place:],
                              table[:place] + table[place + 1:place + 2] + (member,) + table[place + 2:]):
                    self.check_shown(same(value, table), hands, (word, value), text)
            for value in (list(table), table[::-1], table + (None,), (table,), table[:-1], table[1:], (), None, {},
                          "turns",
                          table + table[-1:], dict(enumerate(table))):
                self.check_shown(False, hands, (word, value), text)
            for value in (("mixed", table), ("turns",), ("turns", table, ()), ["turns", table], (None, table),
                          (True, table),
                          (("turns",), table), (table, "turns"), table, ("turn", table)):
                self.check_shown(False, hands, value, text)

    def test_greater_closed_tables(self):
        book, hands = Book(SAY), self.HANDS
        word, table = in_turn(book, hands)
        # No look leads there, but nothing is put until the key has the worth that was kept.
        odd = ((0,), (0,), (NEW, ("looked", ((("say", 1),),), (1,))))
        members = set(table) | {odd}
        level = [odd]
        while level:
            first, store, marks = level.pop()
            for step in all_steps(hands):
                later = after(book, hands, (store, marks), step)
                if later is not None and (first,) + later not in members:
                    members.add((first,) + later)
                    level.append((first,) + later)
        self.assertGreater(len(members), len(table) + 1)
        self.assertTrue(self.is_closed(book, hands, members))
        self.check_shown(True, hands, (word, tuple(sorted(members))))
        self.check_shown(False, hands, (word, tuple(sorted(set(table) | {odd}))))
        for member in sorted(members - set(table)):
            some = members - {member}
            self.check_shown(self.is_closed(book, hands, some), hands, (word, tuple(sorted(some))))

    def test_greater_tables_with_each_further_member(self):
        # Where the worth that was kept is not the present one, nothing but known members follow.
        book, hands = Book(SAY), ((TELL, ("a",)),)
        word, table = in_turn(book, hands)
        many = 0
        for first in book.stores:
            for store in book.stores:
                for number in (0, 1, 7):
                    for worth in (0, 1):
                        told = ((("say", number),),)
                        for mark in (NEW, ("looked", told, (worth,)), ("done", told)):
                            members = set(table) | {(first, store, (mark,))}
                            right = self.is_closed(book, hands, members)
                            many += right and len(members) > len(table)
                            self.check_shown(right, hands, (word, tuple(sorted(members))))
        self.assertEqual(many, 6)

    def test_hands_done_that_did_not_act_in_turn(self):
        book, hands = Book(SAY), ((TELL, ()),)
        word, table = in_turn(book, hands)
        self.check_shown(True, hands, (word, table))
        for first in book.stores:
            for store in book.stores:
                for number in (0, 1, 7):
                    member = (first, store, (("done", ((("say", number),),)),))
                    right = first == store and number == first[0]
                    self.check_shown(right, hands, (word, tuple(sorted(set(table) | {member}))))

    def test_marks_by_their_form(self):
        book, hands = Book(GONE), (((("off", 0), ("look", 0)), ("a", "m")),)
        word, table = in_turn(book, hands)
        last = book.stores[-1]
        # Nothing like this was ever looked at, and yet it is there by its form. It cannot be put, as m is there.
        told, worths = ((), (("say", 7),)), (1, -1)
        member = (last, last, (("looked", told, worths),))
        greater = tuple(sorted(table + (member,)))
        place = greater.index(member)
        self.assertTrue(self.is_closed(book, hands, set(greater)))
        self.check_shown(True, hands, (word, greater), GONE)
        for wrong in (
            ("looked", told), ("looked", told, worths, ()), ("looked", told, (1,)), ("looked", told, (1, -1, 0)),
            ("looked", told, (2, -1)), ("looked", told, (-1, -1)), ("looked", told, (0, -2)), ("looked", told, (0, 3)),
            ("looked", told, (True, -1)), ("looked", told, [1, -1]), ("looked", told, None), ("looked", told, "1-"),
            ("looked", told[1:], worths), ("looked", ((),) + told, worths), ("looked", list(told), worths),
            ("looked", ((), (("say", -1),)), worths), ("looked", ((), (("say", True),)), worths),
            ("looked", (), worths),
            ("looked", ((), (("set", "a", 2),)), worths), ("looked", ((), (("drop", "a"),)), worths),
            ("looked", ((), [("say", 0)]), worths), ("looked", ((), ("say", 0)), worths), ("looked", "no", worths),
            ("looked", ((), (("refused", (), "x"),)), worths), ("looked", None, worths), ["looked", told, worths],
            ("lookee", told, worths), ("look", told, worths), (None, told, worths), (("looked",), told, worths),
            ("looked",), (told, worths), ("looked", worths, told), ("looked", (None, ()), worths),
        ):
            value = greater[:place] + ((last, last, (wrong,)),) + greater[place + 1:]
            self.check_shown(False, hands, (word, value), GONE)
            self.check_shown(False, hands, (word, greater[:place + 1] + ((last, last, (wrong,)),
                                                                         ) + greater[place + 1:]), GONE)
        for marks in ((), (NEW, NEW), [NEW], NEW, None, "new", ((NEW,),), (("looked", told, worths), NEW)):
            for at in (place, place + 1, len(greater)):
                self.check_shown(False, hands, (word, greater[:at] + ((last, last, marks),) + greater[at:]), GONE)
        # With the present worths it can be put, and that is no turn.
        first = book.stores[0]
        members = set(table) | {(first, first, (("looked", told, (0, -1)),)), (first, first, (("done", told),))}
        self.assertFalse(self.is_closed(book, hands, members))
        self.check_shown(False, hands, (word, tuple(sorted(members))), GONE)

    def test_marks_by_their_form_where_the_hand_is_new_or_done(self):
        book, hands = Book(SAY), ((TELL, ()),)
        word, table = in_turn(book, hands)
        told = ((("say", 1),),)
        for mark, wrongs in ((NEW, (("new", ()), ("new", told), ("new", None), ["new"], ("newer",))),
                             (("done", told), (("done", told, ()), ("done", told, told), ["done", told]))):
            place = table.index(((1,), (1,), (mark,)))
            for wrong in wrongs:
                for value in (table[:place] + (((1,), (1,), (wrong,)),) + table[place + 1:],
                              table[:place + 1] + (((1,), (1,), (wrong,)),) + table[place + 1:]):
                    self.check_shown(False, hands, (word, value))
        for member in (((1,), (1,)), ((1,), (1,), (NEW,), ()), ((1,), (1,), NEW), [(1,), (1,), (NEW,)]):
            place = table.index(((1,), (1,), (NEW,)))
            self.check_shown(False, hands, (word, table[:place + 1] + (member,) + table[place + 1:]))

    def test_tables_of_other_hands(self):
        book = Book(BOTH)
        tables = {hands: in_turn(book, hands) for hands in (
            ((ONE, ("a",)), (TWO, ("b",))), ((ONE, ("a", "b")), (TWO, ("a", "b"))), ((TWO, ("b",)), (ONE, ("a",))),
            ((ONE, ("a",)), (ONE, ("a",))))}
        for hands in tables:
            for other, answer in tables.items():
                self.assertEqual(answer[0], "turns")
                self.check_shown(hands == other, hands, answer, BOTH)
        self.check_shown(False, ((ONE, ()), (TWO, ())), tables[((ONE, ("a",)), (TWO, ("b",)))], BOTH)

    def test_a_table_that_lacks_a_store(self):
        book, hands = Book(SAY), ((TELL, ("a",)),)
        word, table = in_turn(book, hands)
        for store in book.stores:
            self.check_shown(False, hands, (word, tuple(member for member in table if member[0] != store)))

    def test_values_of_other_kinds(self):
        for text, hands in ((SAY, self.HANDS), (BOTH, ((ONE, ()), (TWO, ())))):
            for value in ANY_VALUES + (
                "turns", "mixed", ("turns",), ("mixed",), ("turns", ()), ("mixed", ()), ("turns", None),
                ("mixed", (), ()),
                ("mixed", None, None), (None, ()), (True, ()), ("turns", (None,)), ("turns", ((),)),
                ("turns", nested(30)),
                ("mixed", nested(30), nested(30)), nested(30), ("turns", {}), ("mixed", (0,), ()),
                ("mixed", (0, 0), ()),
                ("turns", (((), (), ()),)), ("turns", (((0,), (0,), ()),)), ("turns", (((0,), (0,)),)),
            ):
                self.check_shown(False, hands, value, text)


class FLIPS(unittest.TestCase):
    def test_flips_of_two_hands(self):
        book = Book(FLIP)
        hands = (((("flip", 0),), ()), ((("flip", 0), ("look", 0)), ()))
        self.assertEqual(in_turn(book, hands)[0], "turns")


if __name__ == "__main__":
    unittest.main()
