"""Point 18: the class Telling, alone."""

import unittest

from onlytell.errors import BadStore, BadTelling, NoEffect, OtherBook, Stuck
from onlytell.tellings import Telling
from tests.helpers import (
    ANY_VALUES, DEEDS, KEY_ROWS, OTHER_KEY_ROWS, book_of, check_equal, check_refused, nested, same, three_keys,
)

RIGHT_EFFECTS = (
    ("set", "a", 0), ("set", "a", 1), ("set", "m", 0), ("set", "m", 2), ("set", "b", 2),
    ("add", "a", 0), ("add", "a", 1), ("add", "m", 0), ("add", "m", 2), ("add", "b", 2),
    ("drop", "m"),
    ("say", 0), ("say", 1), ("say", 1998), ("say", 10 ** 30),
    ("refused", ("put",), "x"), ("refused", ("look",), "abcdefgh"), ("refused", ("put", "look"), "lacks"),
    ("refused", ("look", "put", "look"), "long"), ("refused", ("put", "put"), "zzz"), ("refused", ("put",), "put"),
)

WRONG_EFFECTS = (
    # No effect at all.
    (), [], {}, None, True, 0, "set", "", ("set",), ("add",), ("drop",), ("say",), ("refused",), ("a", 0),
    # Another word.
    ("put", "a", 0), ("Set", "a", 0), ("", "a", 0), (None, "a", 0), (True, "a", 0), (0, "a", 0),
    (("set",), "a", 0), (["set"], "a", 0), ("say", "a", 0), ("drop", "m", 0), ("set", "m"), ("add", "m"),
    ("set ", "a", 0), ("refuse", ("put",), "x"), ("drops", "m"), ("says", 0), (1, 2),
    # Another key.
    ("set", "c", 0), ("set", "", 0), ("set", "A", 0), ("set", "put", 0), ("set", None, 0), ("set", 0, 0),
    ("set", True, 0), ("set", ("a",), 0), ("set", ["a"], 0), ("set", {"a": 1}, 0), ("set", KEY_ROWS[0], 0),
    ("add", "c", 0), ("add", "", 0), ("add", None, 0), ("add", 1, 0), ("add", ("m",), 0), ("add", ["m"], 0),
    ("drop", "c"), ("drop", "a"), ("drop", "b"), ("drop", ""), ("drop", None), ("drop", 1), ("drop", False),
    ("drop", ("m",)), ("drop", ["m"]), ("drop", {"m": 0}),
    # Another worth, growth or number.
    ("set", "a", 2), ("set", "a", -1), ("set", "m", 3), ("set", "m", -1), ("set", "b", 3), ("set", "a", True),
    ("set", "a", False), ("set", "a", None), ("set", "a", "0"), ("set", "a", (0,)), ("set", "a", [0]),
    ("set", "a", "a"), ("set", "a", 10 ** 30),
    ("add", "a", 2), ("add", "a", -1), ("add", "m", 3), ("add", "m", -1), ("add", "b", 3), ("add", "a", True),
    ("add", "a", False), ("add", "a", None), ("add", "a", "0"), ("add", "a", (0,)), ("add", "a", [0]),
    ("say", -1), ("say", -10 ** 30), ("say", True), ("say", False), ("say", None), ("say", "0"), ("say", (0,)),
    ("say", [0]), ("say", {}),
    # Another road.
    ("refused", (), "x"), ("refused", ("a",), "x"), ("refused", ("put", "a"), "x"), ("refused", ("a", "put"), "x"),
    ("refused", ["put"], "x"), ("refused", "put", "x"), ("refused", None, "x"), ("refused", {"put": 1}, "x"),
    ("refused", (None,), "x"), ("refused", (0,), "x"), ("refused", (("put",),), "x"), ("refused", (["put"],), "x"),
    ("refused", DEEDS[:1], "x"), ("refused", True, "x"), ("refused", ("",), "x"),
    # Another word of a refusal.
    ("refused", ("put",), ""), ("refused", ("put",), "abcdefghi"), ("refused", ("put",), "X"),
    ("refused", ("put",), "a b"), ("refused", ("put",), "a1"), ("refused", ("put",), "a\n"),
    ("refused", ("put",), "`"), ("refused", ("put",), "{"), ("refused", ("put",), "\u00e4"),
    ("refused", ("put",), None), ("refused", ("put",), 0), ("refused", ("put",), True),
    ("refused", ("put",), ("x",)), ("refused", ("put",), ["x"]), ("refused", ("put",), {"x": 1}),
    # A part more or less.
    ("set", "a", 0, 0), ("set", "a", 0, None), ("add", "a"), ("add", "a", 0, 0), ("drop", "m", None),
    ("say", 0, 0), ("say", 0, None), ("refused", ("put",)), ("refused", "x"), ("refused", ("put",), "x", "x"),
    # A list for the tuple.
    ["set", "a", 0], ["add", "a", 0], ["drop", "m"], ["say", 0], ["refused", ("put",), "x"],
)


class Form(unittest.TestCase):
    def test_right_effects(self):
        book = three_keys()
        for effect in RIGHT_EFFECTS:
            with self.subTest(effect=effect):
                self.assertTrue(same(Telling(book, (effect,)).effects, (effect,)))
        self.assertTrue(same(Telling(book, RIGHT_EFFECTS).effects, RIGHT_EFFECTS))
        self.assertTrue(same(Telling(book, ()).effects, ()))

    def test_wrong_effects_at_each_place(self):
        for wrong in WRONG_EFFECTS:
            right = ("say", 0)
            for effects in ((wrong,), (wrong, right), (right, wrong), (right, right, wrong, right)):
                with self.subTest(effects=effects):
                    check_refused(self, BadTelling, effects, Telling, three_keys(), effects)

    def test_values_that_are_no_tuples_of_effects(self):
        for value in ANY_VALUES + (nested(30), ("say", 0), [("say", 0)], [], {("say", 0): 0}, {"a": ("say", 0)}):
            if value != ():
                with self.subTest(value=value):
                    check_refused(self, BadTelling, value, Telling, three_keys(), value)

    def test_growths_and_worths_go_by_the_size_of_their_own_key(self):
        book = book_of((("one", 2, True), ("two", 3, True)), DEEDS)
        for word in ("set", "add"):
            self.assertEqual(len(Telling(book, ((word, "one", 1), (word, "two", 2)))), 2)
            check_refused(self, BadTelling, ((word, "one", 2),), Telling, book, ((word, "one", 2),))

    def test_a_telling_of_many_effects(self):
        self.assertEqual(len(Telling(three_keys(), RIGHT_EFFECTS * 50)), 50 * len(RIGHT_EFFECTS))

    def test_properties_and_names_of_arguments(self):
        book = three_keys()
        telling = Telling(effects=(("say", 3),), book=book)
        self.assertIs(telling.book, book)
        self.assertTrue(same(telling.effects, (("say", 3),)))


class Effects(unittest.TestCase):
    def setUp(self):
        self.effects = (("set", "a", 1), ("say", 1), ("drop", "m"), ("refused", ("put",), "no"), ("say", 1))
        self.telling = Telling(three_keys(), self.effects)

    def test_an_effect_by_its_number(self):
        for number in range(5):
            self.assertTrue(same(self.telling[number], self.effects[number]))

    def test_numbers_that_no_effect_has(self):
        wrong = [value for value in ANY_VALUES if not (type(value) is int and 0 <= value < 5)]
        wrong += [5, 6, -1, -2, -5, -6, 10 ** 30, -10 ** 30, True, False, nested(30), "0", (0,), ("say", 1)]
        for value in wrong:
            with self.subTest(value=value):
                check_refused(self, NoEffect, value, lambda at: self.telling[at], value)

    def test_slices_are_no_numbers(self):
        with self.assertRaises(NoEffect):
            self.telling[0:2]

    def test_the_empty_telling_has_no_effect(self):
        empty = Telling(three_keys(), ())
        for value in (0, 1, -1, False, None):
            check_refused(self, NoEffect, value, lambda at: empty[at], value)

    def test_in(self):
        for effect in self.effects:
            self.assertIs(effect in self.telling, True)
        for effect in RIGHT_EFFECTS:
            self.assertIs(effect in self.telling, effect in self.effects)

    def test_in_tells_kinds_apart(self):
        for value in (("say", True), ["say", 1], ("set", "a", True), ["set", "a", 1], ("refused", ["put"], "no"),
                      ("say", 0), ("say",), "say", ("say", 1, 1), (("say", 1),), ("drop", ["m"])):
            with self.subTest(value=value):
                self.assertIs(value in self.telling, False)
        zero = Telling(three_keys(), (("say", 0), ("add", "b", 0)))
        self.assertIs(("say", False) in zero, False)
        self.assertIs(("add", "b", False) in zero, False)

    def test_in_takes_any_value(self):
        for value in ANY_VALUES + WRONG_EFFECTS + (nested(30), self.telling, self.effects):
            with self.subTest(value=value):
                self.assertIs(value in self.telling, False)

    def test_len(self):
        self.assertEqual(len(self.telling), 5)
        self.assertEqual(len(Telling(three_keys(), ())), 0)
        self.assertEqual(len(Telling(three_keys(), (("say", 1),))), 1)

    def test_a_loop_over_a_telling_ends_in_a_type_error(self):
        with self.assertRaises(TypeError):
            list(self.telling)


class Sums(unittest.TestCase):
    def test_effects_stand_behind_one_another(self):
        book = three_keys()
        one = Telling(book, (("say", 1), ("drop", "m")))
        other = Telling(three_keys(), (("set", "a", 1),))
        both = one + other
        self.assertIsInstance(both, Telling)
        self.assertIs(both.book, book)
        self.assertTrue(same(both.effects, (("say", 1), ("drop", "m"), ("set", "a", 1))))
        self.assertTrue(same((other + one).effects, (("set", "a", 1), ("say", 1), ("drop", "m"))))
        self.assertEqual([one.effects, other.effects], [(("say", 1), ("drop", "m")), (("set", "a", 1),)])

    def test_sums_with_the_empty_telling_and_with_itself(self):
        book = three_keys()
        one = Telling(book, (("say", 1),))
        empty = Telling(book, ())
        self.assertEqual([(one + empty).effects, (empty + one).effects], [one.effects, one.effects])
        self.assertEqual((one + one).effects, (("say", 1), ("say", 1)))
        self.assertIsNot(one + empty, one)

    def test_books_that_only_have_keys_and_names_of_deeds_in_common(self):
        other_book = book_of(KEY_ROWS, (("put", 1, True, "a"), ("look", 3, False, "m")))
        one = Telling(three_keys(), (("say", 1),))
        both = one + Telling(other_book, (("say", 2),))
        self.assertIs(both.book, one.book)
        self.assertEqual(both.effects, (("say", 1), ("say", 2)))

    def test_other_books(self):
        one = Telling(three_keys(), (("say", 1),))
        for key_rows, deeds in other_books():
            with self.subTest(key_rows=key_rows, deeds=deeds):
                other = Telling(book_of(key_rows, deeds), (("say", 2),))
                with self.assertRaises(OtherBook) as caught:
                    one + other
                self.assertIs(caught.exception.value, other)
                self.assertEqual([one.effects, other.effects], [(("say", 1),), (("say", 2),)])

    def test_what_is_no_telling(self):
        one = Telling(three_keys(), (("say", 1),))
        for value in ANY_VALUES + (one.effects, one.book, nested(30)):
            with self.subTest(value=value):
                with self.assertRaises(TypeError):
                    one + value
                with self.assertRaises(TypeError):
                    value + one


def other_books():
    """Key rows and deeds, one of which differs from those of three_keys."""
    for key_rows in OTHER_KEY_ROWS:
        yield key_rows, DEEDS
    put, look = DEEDS
    for deeds in ((put,), (look,), (look, put), (put, look, ("more", 1, False, "")), (("push", 2, False, ""), look)):
        yield KEY_ROWS, deeds


class Equality(unittest.TestCase):
    def test_equal_tellings(self):
        for effects in ((), (("say", 1),), RIGHT_EFFECTS):
            check_equal(self, Telling(three_keys(), effects), Telling(three_keys(), effects), True)

    def test_other_effects(self):
        one = Telling(three_keys(), (("say", 1), ("say", 2)))
        for effects in ((), (("say", 1),), (("say", 2), ("say", 1)), (("say", 1), ("say", 2), ("say", 2))):
            check_equal(self, one, Telling(three_keys(), effects), False)

    def test_books_with_equal_and_with_other_key_rows(self):
        one = Telling(three_keys(), (("say", 1),))
        for key_rows, deeds in other_books():
            other = Telling(book_of(key_rows, deeds), (("say", 1),))
            check_equal(self, one, other, key_rows == KEY_ROWS)

    def test_equal_to_nothing_else(self):
        one = Telling(three_keys(), (("say", 1),))
        for value in ANY_VALUES + (one.effects, one.book, list(one.effects), object(), nested(30)):
            check_equal(self, one, value, False)
        check_equal(self, Telling(three_keys(), ()), (), False)


class Back(unittest.TestCase):
    def check_back(self, effects, worths, expected):
        book = three_keys()
        back = Telling(book, effects).back(worths)
        self.assertIsInstance(back, Telling)
        self.assertIs(back.book, book)
        self.assertTrue(same(back.effects, expected), back.effects)

    def test_one_effect_for_each_key_that_changed(self):
        self.check_back((("set", "a", 1),), (0, 0, 0), (("set", "a", 0),))
        self.check_back((("add", "b", 2),), (0, 0, 1), (("set", "b", 1),))
        self.check_back((("drop", "m"),), (0, 2, 1), (("set", "m", 2),))
        self.check_back((("set", "m", 1),), (0, -1, 1), (("drop", "m"),))

    def test_effects_stand_in_the_sequence_of_the_keys(self):
        effects = (("set", "b", 2), ("set", "m", 1), ("set", "a", 1), ("set", "b", 1))
        self.check_back(effects, (0, -1, 0), (("set", "a", 0), ("drop", "m"), ("set", "b", 0)))
        self.check_back(effects, (0, 2, 0), (("set", "a", 0), ("set", "m", 2), ("set", "b", 0)))

    def test_keys_that_end_as_they_began_have_no_effect(self):
        self.check_back((), (0, -1, 0), ())
        self.check_back((("say", 1), ("refused", ("put",), "no")), (0, 1, 2), ())
        self.check_back((("set", "a", 1), ("add", "b", 0)), (1, 1, 1), ())
        self.check_back((("add", "a", 1), ("add", "b", 2), ("add", "a", 1)), (1, 1, 0), (("set", "b", 0),))
        self.check_back((("set", "m", 1), ("drop", "m")), (0, -1, 0), ())
        self.check_back((("drop", "m"), ("set", "m", 1)), (0, 1, 0), ())

    def test_bad_stores(self):
        telling = Telling(three_keys(), (("set", "a", 1),))
        for value in ANY_VALUES + ((0, 0), (0, 0, 0, 0), (2, 0, 0), (0, 3, 0), (-1, 0, 0), (0, 0, True), [0, 0, 0]):
            with self.subTest(value=value):
                check_refused(self, BadStore, value, telling.back, value)

    def test_stuck_has_the_number_of_the_first_effect_that_cannot_be_done(self):
        for effects, number in (
            ((("drop", "m"),), 0), ((("add", "m", 0),), 0), ((("add", "m", 1), ("add", "m", 1)), 0),
            ((("say", 1), ("set", "a", 1), ("drop", "m")), 2), ((("set", "m", 1), ("drop", "m"), ("drop", "m")), 2),
            ((("set", "m", 1), ("drop", "m"), ("say", 0), ("add", "m", 1), ("drop", "m")), 3),
        ):
            with self.subTest(effects=effects):
                telling = Telling(three_keys(), effects)
                check_refused(self, Stuck, number, telling.back, (0, -1, 0))
                self.assertTrue(same(telling.effects, effects))

    def test_bad_store_comes_ahead_of_stuck(self):
        telling = Telling(three_keys(), (("drop", "m"), ("drop", "m")))
        for value in ((-1, -1, 0), (0, -1), (0, -1, True), None):
            check_refused(self, BadStore, value, telling.back, value)

    def test_the_argument_may_be_passed_by_its_name(self):
        telling = Telling(three_keys(), (("set", "a", 1),))
        self.assertEqual(telling.back(worths=(0, 0, 0)).effects, (("set", "a", 0),))
        self.assertEqual(telling.effects, (("set", "a", 1),))


if __name__ == "__main__":
    unittest.main()
