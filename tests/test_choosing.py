"""Point 10 and guarantee (c): the cheapest choice."""

import unittest
from itertools import combinations

from onlytell.beside import beside
from onlytell.books import Book
from onlytell.choosing import cheapest, shows_cheapest
from onlytell.errors import BadOffers, BadWish
from onlytell.harm import harm
from tests.helpers import ANY_VALUES, check_refused, lined, nested, same, three_keys
from tests.oracles import changed, explored, first_pairs, first_states, harming, parting
from tests.samples import BLIND_WITHIN, PAIR, SAMPLES, SLY

A_DEED, A_ROW = ("keep", "a", "deed"), ("keep", "a", "row")
B_DEED, B_ROW = ("keep", "b", "deed"), ("keep", "b", "row")

# A show of it is true only if put is taught and a is remembered, or if put is not taught.
TWO_SLY = lined("key a 2", "key b 2", "deed put 1 blind", "  set a 1", "deed two 1 blind", "  set b 1", "deed look 1",
                "  say a + b")


def all_choices(offers):
    """The choices in their sequence, each as (price, choice)."""
    found = []
    for many in range(len(offers) + 1):
        for parts in combinations(offers, many):
            choice = tuple(change for change, _ in parts)
            kept = [change[1] for change in choice if change[0] == "keep"]
            if len(set(kept)) == len(kept):
                found.append((sum(price for _, price in parts), choice))
    return sorted(found)


def what_is_wrong(book, choice, wish):
    """(None, tables) of a good choice, or (what, length of a shortest row)."""
    taught = book.taught(tuple(change[1] for change in choice if change[0] == "teach"))
    memory = tuple(change[1:] for change in choice if change[0] == "keep")
    tables = ()
    if wish in ("true", "both"):
        step = parting(taught, ("run",), taught, ("show", memory))
        length, table = explored(first_pairs(taught), taught.letters, step)
        if length is not None:
            return "parts", length
        tables += (table,)
    if wish in ("harmless", "both"):
        length, table = explored(first_states(taught), taught.letters, harming(taught, memory))
        if length is not None:
            return "harms", length
        tables += (table,)
    return None, tables


def offers_of(book, prices):
    """Four offers for the book: its blind deeds, and the first keys."""
    names = sorted(row[0] for row in book.key_rows)
    changes = [("keep", name, how) for name in names for how in ("row", "deed")]
    changes = changes[:4 - len([row for row in book.deeds if row[2]])]
    changes += [("teach", row[0]) for row in book.deeds if row[2]]
    return tuple(zip(sorted(changes), prices))


class Answers(unittest.TestCase):
    def check_cheapest(self, book, offers, wish):
        """That the answer is one that `stepped` gives, and that it is shown; returns its word."""
        answer = cheapest(book, offers, wish=wish)
        reasons = []
        expected = ("none",)
        for price, choice in all_choices(offers):
            what, more = what_is_wrong(book, choice, wish)
            if what is None:
                expected = ("choice", price, choice, more)
                break
            reasons.append((choice, what, more))
        with self.subTest(book=book.text, offers=offers, wish=wish):
            self.assertTrue(same(answer[:-1], expected), answer)
            self.assertEqual([(choice, what, len(row)) for choice, what, _, row in answer[-1]], reasons)
            self.assertIs(shows_cheapest(book, offers, answer, wish=wish), True)
            self.assertTrue(same(cheapest(Book(book.text), offers, wish=wish), answer))
        return answer[0]

    def test_each_book_and_each_wish(self):
        words = []
        for book in SAMPLES + (Book(TWO_SLY),):
            for prices in ((1, 1, 1, 1), (4, 3, 2, 1), (1, 9, 5, 2)):
                for wish in ("true", "harmless", "both"):
                    words.append(self.check_cheapest(book, offers_of(book, prices), wish))
        self.assertGreater(min(words.count("choice"), words.count("none")), 5)

    def test_one_offer(self):
        book = Book(PAIR)
        for change in (A_DEED, A_ROW, B_DEED, B_ROW):
            for wish in ("true", "harmless", "both"):
                self.check_cheapest(book, ((change, 9),), wish)
        self.assertEqual(self.check_cheapest(Book(SLY), ((("teach", "put"), 1),), "both"), "none")

    def test_the_reason_is_parts_where_both_are_broken(self):
        book = Book(BLIND_WITHIN)
        offers = ((("keep", "a", "row"), 1),)
        self.assertEqual([reason[1] for reason in cheapest(book, offers)[1]], ["parts", "parts"])
        self.assertEqual([reason[1] for reason in cheapest(book, offers, wish="harmless")[1]], ["harms", "harms"])
        self.assertEqual([reason[1] for reason in cheapest(book, offers, wish="true")[1]], ["parts", "parts"])

    def test_the_reason_is_harms_only_where_run_and_show_are_alike(self):
        told = cheapest(Book(SLY), ((A_ROW, 1), (("teach", "put"), 2)))
        self.assertEqual(told[:3], ("choice", 3, (A_ROW, ("teach", "put"))))
        self.assertEqual([reason[:2] for reason in told[4]],
                         [((), "harms"), ((A_ROW,), "harms"), ((("teach", "put"),), "parts")])

    def test_the_default_of_the_wish_is_both(self):
        for book in (Book(SLY), Book(PAIR), Book(BLIND_WITHIN), Book(TWO_SLY)):
            offers = offers_of(book, (1, 2, 3, 4))
            answer = cheapest(book, offers, wish="both")
            self.assertTrue(same(cheapest(book, offers), answer))
            self.assertIs(shows_cheapest(book, offers, answer), True)
        answers = [cheapest(Book(SLY), ((("teach", "put"), 1),), wish=wish)[0] for wish in ("true", "harmless", "both")]
        self.assertEqual(answers, ["choice", "choice", "none"])

    def test_the_tables_for_each_wish(self):
        book, offers = Book(PAIR), ((A_DEED, 1), (B_ROW, 1))
        memory = (("a", "deed"), ("b", "row"))
        pairs, states = beside(book, ("run",), book, ("show", memory))[1], harm(book, memory)[1]
        self.assertTrue(same(cheapest(book, offers)[3], (pairs, states)))
        self.assertTrue(same(cheapest(book, offers, wish="true")[3], (pairs,)))
        self.assertTrue(same(cheapest(book, offers, wish="harmless"), ("choice", 0, (), (harm(book, ())[1],), ())))

    def test_the_tables_are_of_the_book_that_the_choice_gives(self):
        book = Book(SLY)
        offers = ((A_ROW, 1), (("teach", "put"), 1))
        taught = book.taught(("put",))
        pairs = beside(taught, ("run",), taught, ("show", (("a", "row"),)))[1]
        self.assertTrue(same(cheapest(book, offers)[3], (pairs, harm(taught, (("a", "row"),))[1])))

    def test_cheaper_choices_of_more_changes_come_first(self):
        book = Book(PAIR)
        told = cheapest(book, ((A_DEED, 1), (A_ROW, 3), (B_ROW, 1)))
        self.assertEqual(told[:3], ("choice", 2, (A_DEED, B_ROW)))
        self.assertEqual([reason[0] for reason in told[4]], [(), (A_DEED,), (B_ROW,)])
        told = cheapest(book, ((A_DEED, 9), (A_ROW, 3), (B_ROW, 1)))
        self.assertEqual(told[:3], ("choice", 4, (A_ROW, B_ROW)))

    def test_choices_of_the_same_price_as_tuples_are_compared(self):
        book = Book(PAIR)
        told = cheapest(book, ((A_DEED, 1), (A_ROW, 1), (B_DEED, 2), (B_ROW, 1)))
        self.assertEqual(told[:3], ("choice", 2, (A_DEED, B_ROW)))
        self.assertEqual([reason[0] for reason in told[4]], [(), (A_DEED,), (A_ROW,), (B_ROW,)])
        told = cheapest(book, ((A_DEED, 1), (A_ROW, 1), (B_DEED, 2), (B_ROW, 3)))
        self.assertEqual([reason[0] for reason in told[4]],
                         [(), (A_DEED,), (A_ROW,), (B_DEED,), (A_DEED, B_DEED), (A_ROW, B_DEED), (B_ROW,)])
        self.assertEqual(told[:3], ("choice", 4, (A_DEED, B_ROW)))

    def test_keys_come_ahead_of_deeds(self):
        told = cheapest(Book(TWO_SLY), ((A_ROW, 1), (B_ROW, 1), (("teach", "put"), 1), (("teach", "two"), 1)))
        names = [tuple(change[1] for change in reason[0]) for reason in told[4]]
        self.assertEqual(told[:2], ("choice", 4))
        self.assertEqual(names[:9], [(), ("a",), ("b",), ("put",), ("two",), ("a", "b"), ("a", "put"), ("a", "two"),
                                     ("b", "put")])
        self.assertEqual(len(names), 15)

    def test_no_choice_keeps_a_key_twice(self):
        told = cheapest(Book(PAIR), ((A_DEED, 1), (A_ROW, 1)))
        self.assertEqual(told[0], "none")
        self.assertEqual([reason[0] for reason in told[1]], [(), (A_DEED,), (A_ROW,)])

    def test_a_key_and_a_deed_of_one_name(self):
        # To teach the deed a keeps no key.
        book = Book(lined("key a 2", "deed a 1 blind", "  set a 1", "deed look 1", "  say a"))
        told = cheapest(book, ((A_ROW, 1), (("teach", "a"), 2)))
        self.assertEqual(told[:3], ("choice", 3, (A_ROW, ("teach", "a"))))
        self.assertEqual([reason[0] for reason in told[4]], [(), (A_ROW,), (("teach", "a"),)])

    def test_none_has_a_reason_for_each_choice(self):
        told = cheapest(Book(PAIR), ((A_DEED, 2), (A_ROW, 1), (B_DEED, 4)))
        self.assertEqual([reason[0] for reason in told[1]],
                         [(), (A_ROW,), (A_DEED,), (B_DEED,), (A_ROW, B_DEED), (A_DEED, B_DEED)])

    def test_by_the_names_of_the_arguments(self):
        book, offers = Book(PAIR), ((A_DEED, 1), (B_ROW, 1))
        answer = cheapest(wish="true", offers=offers, book=book)
        self.assertIs(shows_cheapest(wish="true", value=answer, offers=offers, book=book), True)
        with self.assertRaises(TypeError):
            cheapest(book, offers, "true")
        with self.assertRaises(TypeError):
            shows_cheapest(book, offers, answer, "true")


# Offers for the book of helpers.three_keys, in which look is a blind deed and put is none.
RIGHT_OFFERS = (
    ((A_DEED, 1),), ((B_ROW, 9),), ((("teach", "look"), 5),), ((A_DEED, 1), (A_ROW, 1)),
    ((A_DEED, 9), (A_ROW, 8), (("keep", "m", "deed"), 7), (("teach", "look"), 6)),
)
WRONG_OFFERS = tuple(ANY_VALUES) + (
    # Too few, too many, not ascending, a change twice.
    (), tuple((("keep", name, how), 1) for name in "abm" for how in ("deed", "row")),
    ((A_DEED, 1), (A_ROW, 1), (B_DEED, 1), (B_ROW, 1), (("keep", "m", "row"), 1)),
    ((A_ROW, 1), (A_DEED, 1)), ((B_ROW, 1), (A_ROW, 2)), ((("teach", "look"), 1), (A_ROW, 1)),
    ((A_ROW, 1), (A_ROW, 1)), ((A_ROW, 1), (A_ROW, 2)), ((A_ROW, 2), (A_ROW, 1)), ((A_DEED, 1), (B_ROW, 1), (B_ROW, 2)),
    # Another price.
    ((A_ROW, 0),), ((A_ROW, 10),), ((A_ROW, -1),), ((A_ROW, True),), ((A_ROW, None),), ((A_ROW, "1"),),
    ((A_ROW, (1,)),),
    ((A_ROW, [1]),), ((A_ROW, 10 ** 30),), ((A_DEED, 1), (A_ROW, 0)), ((A_DEED, True), (A_ROW, 1)),
    # Another change.
    ((("keep", "c", "row"), 1),), ((("keep", "put", "row"), 1),), ((("keep", "a", "no"), 1),), ((("keep", "a"), 1),),
    ((("keep", "a", "row", "row"), 1),), ((("keep", "a", True), 1),), ((("keep", None, "row"), 1),),
    ((("keep", ["a"], "row"), 1),), ((["keep", "a", "row"], 1),), ((("keep",), 1),), (((), 1),), (("keep", 1),),
    ((("kept", "a", "row"), 1),), ((("a", "row"), 1),), ((("teach", "a"), 1),), ((("teach", "put"), 1),),
    ((("teach", "no"), 1),), ((("teach", "look", "row"), 1),), ((("teach",), 1),), ((("teach", None), 1),),
    ((("teach", ["look"]), 1),), ((["teach", "look"], 1),), ((("teach", ("look",)), 1),), ((("teaches", "look"), 1),),
    ((None, 1),), ((True, 1),), ((("Keep", "a", "row"), 1),), (((True, "look"), 1),),
    # Another form.
    (A_ROW, 1), (A_ROW,), ((A_ROW,),), ((A_ROW, 1, 1),), ((1, A_ROW),), [(A_ROW, 1)], ([A_ROW, 1],), {A_ROW: 1},
    ((A_DEED, 1), None), ((A_DEED, 1), B_ROW), (((A_ROW, 1),),), nested(30), "keep a row 1",
)


class Arguments(unittest.TestCase):
    def test_right_offers(self):
        for offers in RIGHT_OFFERS:
            answer = cheapest(three_keys(), offers)
            self.assertIs(shows_cheapest(three_keys(), offers, answer), True)

    def test_bad_offers(self):
        for value in WRONG_OFFERS:
            with self.subTest(value=value):
                check_refused(self, BadOffers, value, cheapest, three_keys(), value)
                check_refused(self, BadOffers, value, shows_cheapest, three_keys(), value, ("none", ()))

    def test_bad_wishes(self):
        for wish in ANY_VALUES + ("True", "both ", "truth", "harm", "none", "", "harmful", ("both",), ["true"],
                                  nested(30)):
            with self.subTest(wish=wish):
                offers = ((A_ROW, 1),)
                check_refused(self, BadWish, wish, lambda x: cheapest(three_keys(), offers, wish=x), wish)
                check_refused(self, BadWish, wish, lambda x: shows_cheapest(three_keys(), offers, None, wish=x), wish)

    def test_bad_offers_ahead_of_bad_wish(self):
        for value in ((), ((A_ROW, 0),), None):
            check_refused(self, BadOffers, value, lambda x: cheapest(three_keys(), x, wish="no"), value)
            check_refused(self, BadOffers, value, lambda x: shows_cheapest(three_keys(), x, None, wish=None), value)


class Values(unittest.TestCase):
    """What shows_cheapest takes, and what it does not."""

    def check_shown(self, expected, book, offers, value, wish="both"):
        self.assertIs(shows_cheapest(book, offers, value, wish=wish), expected, value)

    def test_values_of_other_kinds(self):
        offers = ((A_DEED, 1), (B_ROW, 1))
        for value in ANY_VALUES + (
            "choice", "none", ("choice",), ("none",), ("none", ()), ("none", None), ("none", (), ()),
            ("none", (None,) * 4),
            ("choice", 0, (), (), ()), ("choice", 0, (), (), None), ("choice", 0, None, (), ()),
            ("choice", (), 0, (), ()),
            ("choice", 2, (A_DEED, B_ROW), (), ()), ("choice", 2, (A_DEED, B_ROW), ((), ()), ((), (), ())),
            (None,) * 5, (True, 0), ("none", nested(30)), ("choice",) + (nested(30),) * 4, nested(30),
        ):
            for wish in ("true", "harmless", "both"):
                self.check_shown(False, Book(PAIR), offers, value, wish)

    def test_each_change_of_a_choice(self):
        book = Book(lined("key a 2", "deed put 1", "  set a 1", "  say a"))
        offers = ((A_DEED, 1), (A_ROW, 2))
        answer = cheapest(book, offers)
        self.assertEqual(answer[:3], ("choice", 1, (A_DEED,)))
        others = [value for value in changed(answer) if not same(value, answer)]
        self.assertGreater(len(others), 500)
        for value in others:
            self.check_shown(False, book, offers, value)

    def test_each_change_of_none(self):
        book, offers = Book(SLY), ((("teach", "put"), 1),)
        answer = cheapest(book, offers)
        self.assertEqual([answer[0]] + [reason[1] for reason in answer[1]], ["none", "harms", "parts"])
        put, look = ("put", 0), ("look", 0)
        self.check_shown(True, book, offers, answer)
        right = []
        for value in changed(answer):
            if not same(value, answer) and shows_cheapest(book, offers, value):
                right.append(value[1][0][3] + value[1][1][2:])
        # Only the rows may be others: both look at a behind a put.
        self.assertEqual(right, [(put,) + ((0,), (put, put, look))])

    def test_prices_and_choices_must_be_the_right_ones(self):
        book, offers = Book(PAIR), ((A_DEED, 1), (B_ROW, 1))
        word, price, choice, tables, reasons = cheapest(book, offers)
        self.check_shown(True, book, offers, (word, price, choice, tables, reasons))
        for value in (
            (word, 1, choice, tables, reasons), (word, True, choice, tables, reasons),
            (word, "2", choice, tables, reasons),
            (word, price, choice[::-1], tables, reasons), (word, price, list(choice), tables, reasons),
            (word, price, choice[:1], tables, reasons), (word, 0, (), tables, ()), ("none", reasons),
            (word, price, choice, tables, reasons[:2]), (word, price, choice, tables, reasons + reasons[-1:]),
            (word, price, choice, tables, reasons[::-1]), (word, price, choice, tables[::-1], reasons),
            (word, price, choice, tables[:1], reasons), (word, price, choice, tables + tables, reasons),
            (word, price, choice, list(tables), reasons), (word, price, choice, tables, list(reasons)),
            (word, price, choice, tables, reasons, ()), (price, choice, tables, reasons),
            (word, price, choice, tables, tuple(list(reason) for reason in reasons)),
            (word, price, choice, tables, tuple(reason[1:] for reason in reasons)),
        ):
            self.check_shown(False, book, offers, value)
        # A price of 1 is not True.
        book = Book(lined("key a 2", "deed put 1", "  set a 1", "  say a"))
        told = cheapest(book, ((A_DEED, 1),))
        self.check_shown(True, book, ((A_DEED, 1),), told)
        self.check_shown(False, book, ((A_DEED, 1),), told[:1] + (True,) + told[2:])

    def test_a_dearer_good_choice_is_not_right(self):
        book = Book(PAIR)
        offers = ((A_DEED, 1), (A_ROW, 2), (B_ROW, 1))
        memory = (("a", "row"), ("b", "row"))
        tables = (beside(book, ("run",), book, ("show", memory))[1], harm(book, memory)[1])
        reasons = cheapest(book, offers)[4]
        self.check_shown(False, book, offers, ("choice", 3, (A_ROW, B_ROW), tables, reasons))
        for row in ((("put", 0),), (("put", 0), ("look", 0)), ()):
            more = reasons + (((A_ROW,), "parts", (0, 0), (("put", 0), ("look", 0))),
                              ((A_DEED, B_ROW), "parts", (0, 0), row))
            self.check_shown(False, book, offers, ("choice", 3, (A_ROW, B_ROW), tables, more))

    def test_a_choice_of_changes_that_are_not_offered(self):
        book, offers = Book(SLY), ((("teach", "put"), 1),)
        reasons = cheapest(book, offers)[1]
        taught, memory = book.taught(("put",)), (("a", "row"),)
        tables = (beside(taught, ("run",), taught, ("show", memory))[1], harm(taught, memory)[1])
        for price in (2, 1, None):
            self.check_shown(False, book, offers, ("choice", price, (A_ROW, ("teach", "put")), tables, reasons))
        self.check_shown(True, book, offers, ("none", reasons))

    def test_reasons_of_either_kind_for_both(self):
        # Run and show part by look behind put, and put alone changes the base.
        book = Book(lined("key a 2", "deed put 1", "  set a 1", "  say a", "deed sly 1 blind", "  set a 0"))
        offers = ((A_DEED, 1),)
        parts, harms = ("parts", (0,), (("put", 0),)), ("harms", (1,), (("sly", 0),))
        kept = ("harms", (1,), (("sly", 0),))
        self.assertEqual(cheapest(book, offers)[1][0][1], "parts")
        for reason in (parts, harms):
            for wish, right in (("both", True), ("true", False), ("harmless", reason == harms)):
                value = ("none", (((),) + reason, ((A_DEED,),) + kept))
                self.check_shown(right, book, offers, value, wish)
        for reason in (("harms",) + parts[1:], ("parts",) + harms[1:], ("alike",) + parts[1:], (None,) + parts[1:]):
            self.check_shown(False, book, offers, ("none", (((),) + reason, ((A_DEED,),) + kept)))

    def test_longer_rows_and_greater_tables(self):
        book, offers = Book(PAIR), ((A_DEED, 1), (B_ROW, 1))
        word, price, choice, tables, reasons = cheapest(book, offers)
        put, look = ("put", 0), ("look", 0)
        longer = (reasons[0][:2] + ((0, 0), (look, look, put)),) + reasons[1:]
        self.check_shown(True, book, offers, (word, price, choice, tables, longer))
        self.check_shown(False, book, offers, (word, price, choice, tables,
                                               (reasons[0][:2] + ((0, 0), (look, put, look)),) + reasons[1:]))
        greater = tuple(sorted(tables[1] + tuple((store, (("b", 0),)) for store in book.stores)))
        self.check_shown(True, book, offers, (word, price, choice, (tables[0], greater), reasons))
        self.check_shown(False, book, offers, (word, price, choice, (tables[0], greater[1:]), reasons))
        self.check_shown(False, book, offers, (word, price, choice, (greater, tables[0]), reasons))

    def test_the_answer_for_another_wish(self):
        for book in SAMPLES:
            offers = offers_of(book, (1, 2, 3, 4))
            answers = {wish: cheapest(book, offers, wish=wish) for wish in ("true", "harmless", "both")}
            for wish, answer in answers.items():
                if answer[0] == "choice":
                    for other in answers:
                        self.check_shown(other == wish, book, offers, answer, other)

    def test_any_none_for_both_as_reasons_are_of_either_kind(self):
        book, offers = Book(SLY), ((("teach", "put"), 1),)
        self.check_shown(False, book, offers, cheapest(book, offers), "true")
        self.check_shown(False, book, offers, cheapest(book, offers), "harmless")


if __name__ == "__main__":
    unittest.main()
