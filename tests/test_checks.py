"""Point 17, the last part, and guarantees (c) and (f): what the hands must check."""

import unittest
from itertools import combinations

from onlytell.books import Book
from onlytell.errors import BadOffers, BadRows
from onlytell.hands import checks, in_turn, shows_checks, shows_in_turn
from tests.hand_oracles import RIGHT_ROW, WRONG_HAND_ROWS, fewest, is_right_mixed
from tests.helpers import ANY_VALUES, check_refused, lined, nested, same, three_keys
from tests.oracles import changed
from tests.samples import BOTH, FLIP, SAMPLES

ONE, TWO = (("one", 0),), (("two", 0),)
BOTH_ROWS = (ONE, TWO)
LOOK_0, LOOK_1, PUT_0, PUT_1 = ("look", 0), ("look", 1), ("put", 0), ("put", 1)
A_0, B_0, A_1, B_1 = (0, "a"), (0, "b"), (1, "a"), (1, "b")


def choices_of(offers):
    """(price, choice) of all choices, in the sequence in which they are tried."""
    parts = [part for many in range(len(offers) + 1) for part in combinations(offers, many)]
    return sorted((sum(price for _, price in part), tuple(check for check, _ in part)) for part in parts)


def hands_with(rows, choice):
    return tuple((row, tuple(key for number, key in choice if number == place)) for place, row in enumerate(rows))


def first_mixed(book, hands):
    """(store, how many steps) of the first store from which some steps mix the hands; None if there is none."""
    for store in book.stores:
        length = fewest(book, hands, store)
        if length is not None:
            return store, length
    return None


class Answers(unittest.TestCase):
    def check_checks(self, book, rows, offers):
        """That the answer is the one that `ran` gives, and that it is shown; returns its word."""
        answer = checks(book, rows, offers)
        expected, ahead = ("none",), []
        for price, choice in choices_of(offers):
            found = first_mixed(book, hands_with(rows, choice))
            if found is None:
                expected = ("choice", price, choice, in_turn(book, hands_with(rows, choice))[1])
                break
            ahead.append((choice,) + found)
        with self.subTest(book=book.text, rows=rows, offers=offers):
            self.assertTrue(same(answer[:-1], expected), answer)
            self.assertEqual([(choice, store, len(steps)) for choice, store, steps in answer[-1]], ahead)
            for choice, store, steps in answer[-1]:
                self.assertTrue(is_right_mixed(book, hands_with(rows, choice), ("mixed", store, steps)))
            self.assertIs(shows_checks(book, rows, offers, answer), True)
            self.assertTrue(same(checks(Book(book.text), rows, offers), answer))
        return answer[0]

    def test_each_book(self):
        words = []
        for book in SAMPLES:
            if len(book.stores) > 12:
                continue
            names = sorted(row[0] for row in book.key_rows)
            rows = (book.letters[:1], book.letters[-1:])
            for numbers in ((0, 1), (1, 1), (0, 0)):
                changes = sorted({(numbers[0], names[0]), (numbers[1], names[-1]), (numbers[1], names[0])})
                for prices in ((1, 1, 1), (3, 2, 1), (1, 2, 9)):
                    words.append(self.check_checks(book, rows, tuple(zip(changes, prices))))
        self.assertGreater(min(words.count("choice"), words.count("none")), 5)

    def test_the_first_choice_by_price_then_as_tuples(self):
        book = Book(BOTH)
        answer = checks(book, BOTH_ROWS, ((A_0, 1), (B_1, 1)))
        self.assertEqual(answer[:3], ("choice", 2, (A_0, B_1)))
        self.assertEqual([reason[0] for reason in answer[4]], [(), (A_0,), (B_1,)])
        self.assertEqual([reason[1] for reason in answer[4]], [(0, 0)] * 3)
        answer = checks(book, BOTH_ROWS, ((A_0, 2), (B_0, 1), (B_1, 3)))
        self.assertEqual(answer[:3], ("choice", 5, (A_0, B_1)))
        self.assertEqual([reason[0] for reason in answer[4]], [(), (B_0,), (A_0,), (A_0, B_0), (B_1,), (B_0, B_1)])
        answer = checks(book, BOTH_ROWS, ((A_0, 2), (B_0, 1), (B_1, 1)))
        self.assertEqual([reason[0] for reason in answer[4]], [(), (B_0,), (B_1,), (A_0,), (B_0, B_1), (A_0, B_0)])
        # Of the same price, the pair comes ahead of the single check as tuples are compared.
        answer = checks(book, BOTH_ROWS, ((A_0, 1), (A_1, 1), (B_1, 2)))
        self.assertEqual([reason[0] for reason in answer[4]], [(), (A_0,), (A_1,), (A_0, A_1), (B_1,)])
        self.assertEqual(answer[:3], ("choice", 3, (A_0, B_1)))

    def test_the_table_is_that_of_the_hands(self):
        book = Book(BOTH)
        answer = checks(book, BOTH_ROWS, ((A_0, 1), (B_1, 1)))
        self.assertTrue(same(("turns", answer[3]), in_turn(book, ((ONE, ("a",)), (TWO, ("b",))))))

    def test_no_check_is_needed(self):
        book = Book(FLIP)
        rows = ((("flip", 0),), (("flip", 0),))
        answer = checks(book, rows, ((A_0, 9),))
        self.assertEqual((answer[:3], answer[4]), (("choice", 0, ()), ()))
        self.assertTrue(same(("turns", answer[3]), in_turn(book, ((rows[0], ()), (rows[1], ())))))

    def test_no_choice_is_good(self):
        answer = checks(Book(BOTH), BOTH_ROWS, ((A_0, 1), (A_1, 1)))
        self.assertEqual((answer[0], len(answer)), ("none", 2))
        self.assertEqual([reason[0] for reason in answer[1]], [(), (A_0,), (A_1,), (A_0, A_1)])
        answer = checks(Book(BOTH), BOTH_ROWS, ((B_0, 9),))
        self.assertEqual([reason[0] for reason in answer[1]], [(), (B_0,)])

    def test_all_checks_of_one_hand(self):
        book = Book(lined("key a 3", "key b 2", "deed say 1", "  say a + b", "  set b 1", "deed put 1", "  add a 1",
                          "  add b 1"))
        rows = ((("say", 0),), (("put", 0),))
        self.check_checks(book, rows, ((A_0, 1), (B_0, 1)))
        self.check_checks(book, rows, ((A_0, 1), (B_0, 1), (A_1, 1)))
        self.check_checks(book, rows[::-1], ((A_1, 1), (B_1, 1)))

    def test_one_row_and_three_rows(self):
        book = Book(BOTH)
        self.assertEqual(self.check_checks(book, (ONE,), ((A_0, 1),)), "choice")
        self.assertEqual(self.check_checks(book, (ONE, TWO, ONE), (((0, "a"), 1), ((1, "b"), 2), ((2, "a"), 3))),
                         "choice")
        self.assertEqual(self.check_checks(book, (ONE, TWO, ONE), (((0, "a"), 1), ((1, "b"), 2), ((2, "b"), 3))),
                         "none")

    def test_guarantee_f(self):
        # With cheaper checks some steps lead to an end that no turn explains.
        for rows, offers in ((BOTH_ROWS, ((A_0, 1), (B_1, 1))), (BOTH_ROWS, ((A_0, 3), (B_0, 1), (B_1, 2)))):
            answer = checks(Book(BOTH), rows, offers)
            for price, choice in choices_of(offers):
                if price < answer[1]:
                    self.assertIsNotNone(first_mixed(Book(BOTH), hands_with(rows, choice)))

    def test_by_the_names_of_the_arguments(self):
        offers = ((A_0, 1), (B_1, 1))
        answer = checks(offers=offers, rows=BOTH_ROWS, book=Book(BOTH))
        self.assertIs(shows_checks(value=answer, offers=offers, rows=BOTH_ROWS, book=Book(BOTH)), True)


# Right and wrong offers for two hands, in the book of helpers.three_keys.
ROWS = (RIGHT_ROW, RIGHT_ROW)
RIGHT_OFFERS = (((A_0, 1),), ((B_1, 9),), ((A_0, 1), (B_0, 2), ((0, "m"), 3)), ((B_0, 9), (A_1, 1)),
                ((A_0, 5), (A_1, 5)))
WRONG_OFFERS = tuple(ANY_VALUES) + (
    ((A_0, 1), (B_0, 1), (A_1, 1), (B_1, 1)), ((B_0, 1), (A_0, 1)), ((A_1, 1), (A_0, 1)), ((A_1, 1), (B_0, 1)),
    ((A_0, 1), (A_0, 1)), ((A_0, 1), (A_0, 2)), ((A_0, 2), (A_0, 1)), ((A_0, 1), (B_1, 1), (B_1, 2)),
    ((A_0, 0),), ((A_0, 10),), ((A_0, -1),), ((A_0, True),), ((A_0, None),), ((A_0, "1"),), ((A_0, (1,)),),
    ((A_0, 10 ** 30),),
    ((A_0, 1), (B_0, 0)), (((2, "a"), 1),), (((-1, "a"), 1),), (((True, "a"), 1),), (((False, "a"), 1),),
    (((None, "a"), 1),),
    ((("0", "a"), 1),), (((0, "c"), 1),), (((0, "put"), 1),), (((0, ""), 1),), (((0, None), 1),), (((0, ("a",)), 1),),
    (((0, ["a"]), 1),), (((0,), 1),), (((0, "a", "a"), 1),), (([0, "a"], 1),), (((), 1),), ((0, 1),), (("a", 1),),
    ((None, 1),),
    (A_0, 1), (A_0,), ((A_0,),), ((A_0, 1, 1),), ((1, A_0),), [(A_0, 1)], ([A_0, 1],), {A_0: 1}, ((A_0, 1), None),
    ((A_0, 1), B_0), (((A_0, 1),),), nested(30), "0 a 1", (((0, 0), 1),), ((("a", 0), 1),), (((10 ** 30, "a"), 1),),
)


class Arguments(unittest.TestCase):
    def test_bad_rows(self):
        values = tuple(ANY_VALUES) + ((RIGHT_ROW,) * 4, [RIGHT_ROW], [RIGHT_ROW, RIGHT_ROW], RIGHT_ROW, {RIGHT_ROW: 1},
                                      nested(30), "look", ((RIGHT_ROW,),))
        values += tuple((row,) for row in WRONG_HAND_ROWS) + tuple((RIGHT_ROW, row,
                                                                    RIGHT_ROW) for row in WRONG_HAND_ROWS)
        for value in values:
            with self.subTest(value=value):
                check_refused(self, BadRows, value, checks, three_keys(), value, None)
                check_refused(self, BadRows, value, shows_checks, three_keys(), value, ((A_0, 0),), None)

    def test_bad_offers(self):
        for value in WRONG_OFFERS:
            with self.subTest(value=value):
                check_refused(self, BadOffers, value, checks, three_keys(), ROWS, value)
                check_refused(self, BadOffers, value, shows_checks, three_keys(), ROWS, value, None)

    def test_right_rows_and_offers(self):
        for offers in RIGHT_OFFERS:
            self.assertIn(checks(three_keys(), ROWS, offers)[0], ("choice", "none"))
        for rows in ((RIGHT_ROW,), (RIGHT_ROW * 3,), (RIGHT_ROW, RIGHT_ROW * 2, (("put", 1), ("look", 0)))):
            self.assertIn(checks(three_keys(), rows, ((A_0, 1),))[0], ("choice", "none"))

    def test_the_number_of_a_row(self):
        offers = (((2, "a"), 1),)
        check_refused(self, BadOffers, offers, checks, three_keys(), ROWS, offers)
        self.assertEqual(checks(three_keys(), ROWS + ROWS[:1], offers)[0],
                         checks(three_keys(), ROWS + ROWS[:1], (((1, "a"), 1),))[0])


class Values(unittest.TestCase):
    """What shows_checks takes, and what it does not."""

    OFFERS = ((A_0, 1), (B_1, 1))

    def check_shown(self, expected, rows, offers, value, text=BOTH):
        self.assertIs(shows_checks(Book(text), rows, offers, value), expected, value)

    def test_each_change_of_a_choice(self):
        # The table is long, so its members are changed in the tests of shows_in_turn.
        book = Book(BOTH)
        word, price, choice, table, reasons = checks(book, BOTH_ROWS, self.OFFERS)
        for value in changed((word, price, choice, 0, reasons)):
            if isinstance(value, tuple) and len(value) == 5 and value[3:4] == (0,) and type(value[3]) is int:
                value = value[:3] + (table,) + value[4:]
            right = (type(value) is tuple and len(value) == 5 and same(value[:4], (word, price, choice, table))
                     and self.are_right_reasons(book, BOTH_ROWS, value[4], [(), (A_0,), (B_1,)]))
            self.check_shown(right, BOTH_ROWS, self.OFFERS, value)

    def test_each_change_of_none(self):
        book, offers = Book(BOTH), ((A_0, 1), (A_1, 1))
        answer = checks(book, BOTH_ROWS, offers)
        for value in changed(answer):
            right = (type(value) is tuple and len(value) == 2 and same(value[0], "none")
                     and self.are_right_reasons(book, BOTH_ROWS, value[1], [(), (A_0,), (A_1,), (A_0, A_1)]))
            self.check_shown(right, BOTH_ROWS, offers, value)

    def are_right_reasons(self, book, rows, value, choices):
        if type(value) is not tuple or len(value) != len(choices):
            return False
        for member, choice in zip(value, choices):
            if type(member) is not tuple or len(member) != 3 or not same(member[0], choice):
                return False
            if not is_right_mixed(book, hands_with(rows, choice), ("mixed",) + member[1:]):
                return False
        return True

    def test_any_table_any_store_and_any_steps(self):
        book = Book(BOTH)
        word, price, choice, table, reasons = checks(book, BOTH_ROWS, self.OFFERS)
        slow = (LOOK_0, LOOK_0, LOOK_1, LOOK_1, PUT_1, PUT_0)
        for number, steps, right in ((0, slow, True), (1, slow, False), (2, slow, True),
                                     (1, (LOOK_1, LOOK_0, PUT_0, PUT_1), True),
                                     (2, (LOOK_1, LOOK_0, PUT_0, PUT_1), False),
                                     (0, (LOOK_0, PUT_0, LOOK_1, PUT_1), False), (0, (), False)):
            other = reasons[:number] + ((reasons[number][0], (0, 0), steps),) + reasons[number + 1:]
            self.check_shown(right, BOTH_ROWS, self.OFFERS, (word, price, choice, table, other))
        # Hands with other checks have other tables.
        for hands in (((ONE, ("a", "b")), (TWO, ("b",))), ((TWO, ("b",)), (ONE, ("a",)))):
            self.check_shown(False, BOTH_ROWS, self.OFFERS, (word, price, choice, in_turn(book, hands)[1], reasons))
        for other in (table[1:], table[:-1], table[::-1], list(table), (), None, table + table[-1:]):
            self.check_shown(False, BOTH_ROWS, self.OFFERS, (word, price, choice, other, reasons))
        # A greater closed table: what was looked at ahead of a change that no step makes.
        odd = ((1, 1), (1, 1), (("looked", ((("set", "b", 1),),), (0,)), ("new",)))
        hands = ((ONE, ("a",)), (TWO, ("b",)))
        behind = ((1, 1), (1, 1), (odd[2][0], ("looked", ((),), (1,)))), ((1, 1), (1, 1), (odd[2][0], ("done", ((),))))
        greater = tuple(sorted(set(table + (odd,) + behind)))
        self.assertEqual(len(greater), len(table) + 3)
        self.assertIs(shows_in_turn(book, hands, ("turns", greater)), True)
        self.check_shown(True, BOTH_ROWS, self.OFFERS, (word, price, choice, greater, reasons))
        self.check_shown(False, BOTH_ROWS, self.OFFERS, (word, price, choice, greater[:-1], reasons))

    def test_another_choice_and_another_price(self):
        book = Book(BOTH)
        offers = ((A_0, 1), (B_0, 2), (B_1, 1))
        word, price, choice, table, reasons = checks(book, BOTH_ROWS, offers)
        self.assertEqual((price, choice), (2, (A_0, B_1)))
        all_three = in_turn(book, ((ONE, ("a", "b")), (TWO, ("b",))))[1]
        for value in (
            (word, 2, (A_0, B_1), table, reasons), (word, 4, (A_0, B_0, B_1), all_three, reasons),
            (word, 1, (A_0,), table, reasons[:1]),
            (word, 1, (A_0, B_1), table, reasons), (word, 2, (B_1, A_0), table, reasons),
            (word, "2", choice, table, reasons),
            (word, 2, ((False, "a"), B_1), table, reasons), (word, 2, (A_0, (True, "b")), table, reasons),
            (word, 2, [A_0, B_1], table, reasons), (word, 2, choice, table, reasons[::-1]),
            (word, 2, choice, table, reasons[1:]),
            (word, 2, choice, table, reasons + reasons[-1:]), (word, 2, choice, table, list(reasons)),
            ("none", reasons),
            (word, 0, (), table, ()), (word, 2, choice, table), (word, 2, choice, table, reasons, ()),
            (2, choice, table, reasons),
            [word, 2, choice, table, reasons], ("none", 2, choice, table, reasons), (None, 2, choice, table, reasons),
        ):
            self.check_shown(same(value, (word, price, choice, table, reasons)), BOTH_ROWS, offers, value)

    def test_a_choice_of_checks_that_are_not_offered(self):
        book, offers = Book(BOTH), ((A_0, 1), (A_1, 1))
        reasons = checks(book, BOTH_ROWS, offers)[1]
        table = in_turn(book, ((ONE, ("a",)), (TWO, ("b",))))[1]
        for price in (2, 3, None):
            self.check_shown(False, BOTH_ROWS, offers, ("choice", price, (A_0, B_1), table, reasons))
        self.check_shown(True, BOTH_ROWS, offers, ("none", reasons))

    def test_a_price_of_0_is_not_false_and_one_of_1_is_not_true(self):
        rows = ((("flip", 0),), (("flip", 0),))
        word, price, choice, table, reasons = checks(Book(FLIP), rows, ((A_0, 9),))
        self.check_shown(True, rows, ((A_0, 9),), (word, 0, choice, table, reasons), FLIP)
        self.check_shown(False, rows, ((A_0, 9),), (word, False, choice, table, reasons), FLIP)
        # tell checks what it tells, as it sets it, too.
        text = lined("key a 3", "deed put 1", "  set a 1", "deed tell 1", "  say a", "  add a 1")
        rows, offers = ((("tell", 0),), (("put", 0),)), ((A_0, 1),)
        answer = checks(Book(text), rows, offers)
        self.assertEqual(answer[:3], ("choice", 1, (A_0,)))
        self.check_shown(True, rows, offers, answer, text)
        self.check_shown(False, rows, offers, answer[:1] + (True,) + answer[2:], text)

    def test_values_of_other_kinds(self):
        for offers in (self.OFFERS, ((A_0, 1), (A_1, 1))):
            for value in ANY_VALUES + (
                "choice", "none", ("choice",), ("none",), ("none", ()), ("none", None), ("none", (), ()),
                ("none", (None,) * 4),
                ("choice", 0, (), (), ()), ("choice", 0, None, (), ()), ("choice", (), 0, (), ()), (None,) * 5,
                (None, ()),
                ("choice", 2, (A_0, B_1), (), ()), ("choice", 2, (A_0, B_1), None, None), (True, ()), nested(30),
                ("choice",) + (nested(30),) * 4, ("none", nested(30)), ("turns", ()), ("choice", 0, (), (), None),
            ):
                self.check_shown(False, BOTH_ROWS, offers, value)


if __name__ == "__main__":
    unittest.main()
