"""Point 17, the first part: the steps of hands on one store."""

import unittest
from itertools import product

from onlytell.books import Book
from onlytell.errors import BadHands, BadSteps, BadStore
from onlytell.hands import played
from onlytell.running import ran
from tests.hand_oracles import WRONG_HANDS, WRONG_STEPS, after, all_steps, start
from tests.helpers import ANY_VALUES, check_refused, lined, nested, same, three_keys
from tests.samples import BOTH, SAMPLES, WRONG_STORES

ONE, TWO = (("one", 0),), (("two", 0),)
NEW = ("new",)
LOOK_0, LOOK_1, PUT_0, PUT_1 = ("look", 0), ("look", 1), ("put", 0), ("put", 1)

# Each hand may find that m is gone when it puts.
DROPS = lined("key a 2", "may m 2", "deed off 1", "  set a 1", "  drop m", "deed on 1", "  set m 0", "deed grow 1",
              "  set a 1", "  add m 1", "deed quiet 1", "  say a")


class Steps(unittest.TestCase):
    def check_played(self, book, store, hands, steps, expected):
        with self.subTest(store=store, hands=hands, steps=steps):
            self.assertTrue(same(played(book, store, hands, steps), expected), played(book, store, hands, steps))

    def check_bad(self, book, store, hands, steps, number):
        with self.subTest(store=store, hands=hands, steps=steps):
            check_refused(self, BadSteps, number, played, book, store, hands, steps)

    def test_all_steps_of_up_to_five_that_can_come(self):
        many = 0
        for book in SAMPLES[:5]:
            keys = tuple(sorted(row[0] for row in book.key_rows))
            first, last = book.letters[0], book.letters[-1]
            for hands in ((((first,), ()),), (((first,), keys), ((last, first), ())),
                          (((last,), keys[:1]), ((first,), keys))):
                for store in book.stores[::3]:
                    for length in range(5):
                        for steps in product(all_steps(hands), repeat=length):
                            state, number = start(hands, store), None
                            for place, step in enumerate(steps):
                                later = after(book, hands, state, step)
                                if later is None:
                                    number = place
                                    break
                                state = later
                            if number is None:
                                self.assertTrue(same(played(book, store, hands, steps), state), (store, hands, steps))
                                many += 1
                            elif len(steps) < 4:
                                self.check_bad(book, store, hands, steps, number)
        self.assertGreater(many, 1000)

    def test_no_steps(self):
        for book in SAMPLES:
            for store in book.stores:
                hands = ((book.letters[:1], ()),) * 3
                self.check_played(book, store, hands, (), (store, (NEW,) * 3))

    def test_a_look_keeps_what_a_run_would_tell_and_the_worths_of_the_keys(self):
        book = Book(BOTH)
        told = ((("set", "b", 1),),)
        for keys, worths in (((), ()), (("a",), (0,)), (("b",), (1,)), (("a", "b"), (0, 1))):
            self.check_played(book, (0, 1), ((ONE, keys),), (LOOK_0,), ((0, 1), (("looked", told, worths),)))
        self.check_played(book, (1, 0), ((ONE, ("a",)),), (LOOK_0,), ((1, 0), (("looked", ((),), (1,)),)))

    def test_worths_stand_in_the_sequence_of_the_keys_checked_and_not_of_the_text(self):
        book = Book(lined("key z 3", "may m 2", "key a 3", "deed d 1", "  say 1"))
        row = (("d", 0),)
        self.check_played(book, (1, -1, 2), ((row, ("a", "m", "z")),), (LOOK_0,),
                          ((1, -1, 2), (("looked", ((("say", 1),),), (2, -1, 1)),)))

    def test_looks_that_are_made_again_keep_what_is_now(self):
        book = Book(BOTH)
        hands = ((ONE, ("a",)), (TWO, ()))
        one, two = ((("set", "b", 1),),), ((("set", "a", 1),),)
        self.check_played(book, (0, 0), hands, (LOOK_0, LOOK_1, PUT_1),
                          ((1, 0), (("looked", one, (0,)), ("done", two))))
        self.check_played(book, (0, 0), hands, (LOOK_0, LOOK_1, PUT_1, LOOK_0),
                          ((1, 0), (("looked", ((),), (1,)), ("done", two))))
        self.check_played(book, (0, 0), hands, (LOOK_0,) * 30, ((0, 0), (("looked", one, (0,)), NEW)))

    def test_a_put_does_what_was_told_and_wakes_no_deed(self):
        book = Book(lined("key a 2", "key b 2", "deed put 1", "  set a 1", "deed one 1 when a", "  add b 1"))
        told = ((("set", "a", 1), ("add", "b", 1)),)
        self.check_played(book, (0, 0), (((("put", 0),), ()),), (LOOK_0, PUT_0), ((1, 1), (("done", told),)))
        # b was turned twice, each time as it was told.
        hands = (((("put", 0),), ()),) * 2
        self.check_played(book, (0, 0), hands, (LOOK_0, LOOK_1, PUT_0, PUT_1), ((1, 0), (("done", told),) * 2))

    def test_a_put_that_fails_by_a_key(self):
        book = Book(BOTH)
        hands = ((ONE, ("a",)), (TWO, ("b",)))
        one, two = ((("set", "b", 1),),), ((("set", "a", 1),),)
        steps = (LOOK_0, LOOK_1, PUT_0, PUT_1)
        self.check_played(book, (0, 0), hands, steps, ((0, 1), (("done", one), NEW)))
        self.check_played(book, (0, 0), hands, steps + (LOOK_1, PUT_1), ((0, 1), (("done", one), ("done", ((),)))))
        # The keys that are not checked do not matter.
        self.check_played(book, (0, 0), ((ONE, ("a",)), (TWO, ("a",))), steps, ((1, 1), (("done", one), ("done", two))))
        self.check_bad(book, (0, 0), hands, steps + (PUT_1,), 4)

    def test_a_key_that_was_changed_and_changed_back_does_not_matter(self):
        book = Book(lined("key a 2", "deed one 1", "  set a 1", "deed two 1", "  set a 0", "deed look 1", "  say a"))
        hands = (((("look", 0),), ("a",)), ((("one", 0),), ()), ((("two", 0),), ()))
        steps = (LOOK_0, LOOK_1, PUT_1, ("look", 2), ("put", 2), PUT_0)
        told = (((("say", 0),),), ((("set", "a", 1),),), ((("set", "a", 0),),))
        self.check_played(book, (0,), hands, steps, ((0,), tuple(("done", tellings) for tellings in told)))

    def test_a_put_that_fails_since_an_effect_cannot_be_done(self):
        book = Book(DROPS)
        off, grow, on = (("off", 0),), (("grow", 0),), (("on", 0),)
        told = ((("set", "a", 1), ("drop", "m")),)
        hands = ((off, ()), (off, ()))
        steps = (LOOK_0, LOOK_1, PUT_0, PUT_1)
        self.check_played(book, (0, 0), hands, steps, ((1, -1), (("done", told), NEW)))
        self.check_played(book, (0, 0), ((off, ()), (grow, ())), steps, ((1, -1), (("done", told), NEW)))
        # Nothing of it is done, also the effect ahead of the one that cannot be done.
        hands = ((grow, ()), (((("off", 0)), ("on", 0), ("off", 0)), ()))
        grown = ((("set", "a", 1), ("add", "m", 1)),)
        twice = (told[0], (("set", "m", 0),), told[0])
        self.check_played(book, (0, 0), hands, (LOOK_0, LOOK_1, PUT_1, PUT_0), ((1, -1), (NEW, ("done", twice))))
        self.check_played(book, (0, 0), hands, (LOOK_0, PUT_0), ((1, 1), (("done", grown), NEW)))
        # If m is there again, it can be done.
        hands = ((off, ()), (off, ()), (on, ()))
        steps = (LOOK_0, LOOK_1, PUT_0, ("look", 2), ("put", 2), PUT_1)
        self.check_played(book, (0, 0), hands, steps,
                          ((1, -1), (("done", told), ("done", told), ("done", ((("set", "m", 0),),)))))

    def test_a_failed_put_of_a_refused_letter(self):
        book = Book(DROPS)
        refused = ((("refused", ("off",), "lacks"),),)
        self.check_played(book, (0, -1), (((("off", 0),), ("m",)),), (LOOK_0, PUT_0), ((0, -1), (("done", refused),)))

    def test_the_tellings_of_a_row_are_put_one_behind_the_other(self):
        book = Book(lined("key a 3", "deed grow 2", "  add a it + 1", "  say a"))
        row = (("grow", 0), ("grow", 1), ("grow", 0))
        tellings = ran(book, (0,), row)[0]
        self.check_played(book, (0,), ((row, ()),), (LOOK_0, PUT_0), ((1,), (("done", tellings),)))
        self.assertEqual(len(tellings), 3)
        hands = ((row, ()), ((("grow", 0),), ()))
        self.check_played(book, (0,), hands, (LOOK_0, LOOK_1, PUT_1, PUT_0),
                          ((2,), (("done", tellings), ("done", ((("add", "a", 1), ("say", 1)),)))))

    def test_steps_that_cannot_come(self):
        book = Book(BOTH)
        hands = ((ONE, ()), (TWO, ("b",)))
        for steps, number in (
            ((PUT_0,), 0), ((PUT_1,), 0), ((LOOK_0, PUT_1), 1), ((LOOK_0, PUT_0, PUT_0), 2),
            ((LOOK_0, PUT_0, LOOK_0), 2),
            ((LOOK_0, PUT_0, LOOK_1, LOOK_0), 3), ((LOOK_0, LOOK_1, PUT_0, PUT_1, PUT_1), 4), ((("look", 2),), 0),
            ((("put", 2),), 0), ((("look", -1),), 0), ((LOOK_0, ("look", 2), PUT_1), 1),
            ((LOOK_0, PUT_1, ("look", 2)), 1),
            ((LOOK_0, None, PUT_1), 1), ((LOOK_0,) * 50 + (PUT_1,), 50),
            ((LOOK_0, LOOK_1, PUT_0, PUT_1, LOOK_1, ()), 5),
        ):
            self.check_bad(book, (0, 0), hands, steps, number)

    def test_one_to_three_hands(self):
        book = Book(BOTH)
        for many in (1, 2, 3):
            hands = ((ONE, ()),) * many
            for number in range(4):
                if number < many:
                    self.assertEqual(played(book, (0, 0), hands, (("look", number),))[1][number][0], "looked")
                else:
                    self.check_bad(book, (0, 0), hands, (("look", number),), 0)

    def test_by_the_names_of_the_arguments(self):
        found = played(steps=(LOOK_0, PUT_0), hands=((ONE, ()),), store=(0, 0), book=Book(BOTH))
        self.assertEqual(found, ((0, 1), (("done", ((("set", "b", 1),),)),)))

    def test_equal_calls_return_equal_results_and_leave_the_arguments(self):
        book, hands, steps = Book(BOTH), ((ONE, ("a",)), (TWO, ())), (LOOK_0, LOOK_1, PUT_0, PUT_1)
        self.assertTrue(same(played(book, (0, 0), hands, steps), played(Book(BOTH), (0, 0), hands, steps)))
        self.assertEqual((hands, steps), (((ONE, ("a",)), (TWO, ())), (LOOK_0, LOOK_1, PUT_0, PUT_1)))


class Arguments(unittest.TestCase):
    def test_bad_stores(self):
        for value in WRONG_STORES:
            check_refused(self, BadStore, value, played, three_keys(), value, None, None)

    def test_bad_hands(self):
        for value in WRONG_HANDS:
            with self.subTest(value=value):
                check_refused(self, BadHands, value, played, three_keys(), (0, 0, 0), value, None)

    def test_right_hands(self):
        row = (("put", 0),)
        for hands in (((row, ()),), ((row, ("a",)),), ((row * 3, ("a", "b", "m")),), ((row, ()), (row * 2, ("b", "m"))),
                      ((row, ()),) * 3):
            self.assertEqual(played(three_keys(), (0, 0, 0), hands, ())[0], (0, 0, 0))

    def test_bad_steps(self):
        hands = (((("put", 0),), ()),) * 2
        for value in WRONG_STEPS:
            with self.subTest(value=value):
                check_refused(self, BadSteps, 0, played, three_keys(), (0, 0, 0), hands, (value,))
                check_refused(self, BadSteps, 1, played, three_keys(), (0, 0, 0), hands,
                              (("look", 1), value, ("put", 0)))
        for value in ANY_VALUES + ([("look", 0)], ("look", 0), {("look", 0): 1}, nested(30), "look"):
            if not isinstance(value, tuple):
                check_refused(self, BadSteps, -1, played, three_keys(), (0, 0, 0), hands, value)
            elif value != ():
                check_refused(self, BadSteps, 0, played, three_keys(), (0, 0, 0), hands, value)


if __name__ == "__main__":
    unittest.main()
