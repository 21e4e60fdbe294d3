"""Point 13 and guarantee (c): which letters of others spoil a row, and which are cheapest to bar."""

import unittest
from itertools import combinations

from onlytell.books import Book
from onlytell.errors import BadLetters, BadPrices, BadRow, BadStore
from onlytell.running import ran
from onlytell.spoiling import bars, shows_bars, shows_spoils, spoils
from tests.helpers import ANY_VALUES, check_refused, lined, nested, same, three_keys
from tests.oracles import changed
from tests.samples import (
    BOTH, FLIP, PAIR, SAMPLES, WRONG_LETTER_SETS, WRONG_LETTERS, WRONG_ROWS, WRONG_STORES, is_letters, is_one_of,
    small_rows, wrong_prices,
)

LOOK = ("look", 0)

# What show tells is spoilt only where a and b have become 2, each by a letter of its own; back undoes all.
FAR = lined("key a 3", "key b 3", "deed back 1", "  set a 0", "  set b 0", "deed grow 2", "  if it = 0", "    add a 1",
            "  else", "    add b 1", "deed look 1", "  if a + b = 4", "    say 1", "deed show 1", "  say a")
GROW_A, GROW_B = ("grow", 0), ("grow", 1)


def told(book, store, row):
    return ran(book, store, row)[0]


def reached(book, store, letters):
    """All stores that can be reached by these letters, with the length of a shortest row to each."""
    found, level = {store: 0}, [store]
    while level:
        further = []
        for elder in level:
            for letter in letters:
                later = ran(book, elder, (letter,))[1]
                if later not in found:
                    found[later] = found[elder] + 1
                    further.append(later)
        level = further
    return found


def fewest(book, store, row, letters):
    """How many letters spoil the row at least; None if none do."""
    lengths = [length for later, length in reached(book, store, letters).items()
               if told(book, later, row) != told(book, store, row)]
    return min(lengths) if lengths else None


def is_right_spoils(book, store, row, letters, value):
    """Whether the value is a right answer, as the document says it."""
    if type(value) is not tuple or len(value) != 2 or type(value[1]) is not tuple:
        return False
    if same(value[0], "spoils"):
        if not is_letters(book, value[1]) or not set(value[1]) <= set(letters):
            return False
        return told(book, ran(book, store, value[1])[1], row) != told(book, store, row)
    if not same(value[0], "never") or not all(is_one_of(book.stores, member) for member in value[1]):
        return False
    if sorted(set(value[1])) != list(value[1]) or store not in value[1]:
        return False
    behind = {ran(book, member, (letter,))[1] for member in value[1] for letter in letters}
    return behind <= set(value[1]) and {told(book, member, row) for member in value[1]} == {told(book, store, row)}


def letter_sets(letters, prices):
    """(price, set) of all sets, in the sequence in which they are tried."""
    price_of = dict(zip(letters, prices))
    sets = [part for many in range(len(letters) + 1) for part in combinations(letters, many)]
    rows = sorted((sum(price_of[letter] for letter in part), len(part), part) for part in sets)
    return [(price, part) for price, _, part in rows]


def without(letters, barred):
    return tuple(letter for letter in letters if letter not in barred)


def cases():
    """Books, stores, rows and letters of many kinds."""
    for book in SAMPLES + (Book(FAR),):
        letters = tuple(sorted(book.letters))
        for row in small_rows(book, 1):
            for store in book.stores[::3]:
                for left in sorted({letters, letters[1:], letters[::2], letters[-1:], ()}):
                    yield book, store, row, left


class Spoils(unittest.TestCase):
    def check_spoils(self, book, store, row, letters):
        """That the answer is one that `ran` gives, and that it is shown; returns its word."""
        answer = spoils(book, store, row, letters)
        length = fewest(book, store, row, letters)
        with self.subTest(book=book.text, store=store, row=row, letters=letters):
            if length is None:
                self.assertTrue(same(answer, ("never", tuple(sorted(reached(book, store, letters))))), answer)
            else:
                self.assertEqual((answer[0], len(answer[1])), ("spoils", length))
                self.assertTrue(is_right_spoils(book, store, row, letters, answer))
            self.assertIs(shows_spoils(book, store, row, letters, answer), True)
            self.assertTrue(same(spoils(Book(book.text), store, row, letters), answer))
        return answer[0] if length is None else length

    def test_each_book(self):
        words = [self.check_spoils(*case) for case in cases()]
        self.assertGreater(min(words.count("never"), words.count(1)), 100)
        self.assertGreater(words.count(2) + words.count(3), 1)

    def test_letters_that_do_not_change_what_is_told(self):
        book = Book(FLIP)
        self.assertTrue(same(spoils(book, (0, 0), (LOOK,), (("flip", 0),)), ("never", ((0, 0), (1, 1)))))
        self.assertTrue(same(spoils(book, (0, 1), (LOOK,), (("flip", 0),)), ("never", ((0, 1), (1, 0)))))
        self.assertTrue(same(spoils(book, (0, 1), (LOOK,), (LOOK,)), ("never", ((0, 1),))))

    def test_no_letters(self):
        for store in Book(PAIR).stores:
            self.assertTrue(same(spoils(Book(PAIR), store, (LOOK,), ()), ("never", (store,))))

    def test_a_row_without_letters_is_never_spoilt(self):
        book = Book(FAR)
        self.assertTrue(same(spoils(book, (0, 0), (), tuple(sorted(book.letters))), ("never", book.stores)))

    def test_letters_that_spoil_only_behind_others(self):
        book = Book(FAR)
        word, others = spoils(book, (0, 0), (LOOK,), (GROW_A, GROW_B))
        self.assertEqual((word, sorted(others)), ("spoils", [GROW_A, GROW_A, GROW_B, GROW_B]))
        self.assertEqual(spoils(book, (2, 1), (LOOK,), (GROW_A, GROW_B)), ("spoils", (GROW_B,)))
        self.assertTrue(same(spoils(book, (0, 0), (LOOK,), (GROW_A,)), ("never", ((0, 0), (1, 0), (2, 0)))))
        # back alone spoils what show tells only where a is not 0.
        self.assertTrue(same(spoils(book, (0, 1), (("show", 0),), (("back", 0),)), ("never", ((0, 0), (0, 1)))))
        self.assertEqual(spoils(book, (1, 1), (("show", 0),), (("back", 0),)), ("spoils", (("back", 0),)))

    def test_just_the_stores_that_can_be_reached_from_this_one(self):
        book = Book(BOTH)
        row = (("one", 0),)
        self.assertTrue(same(spoils(book, (1, 1), row, (("one", 0), ("two", 0))), ("never", ((1, 1),))))
        self.assertTrue(same(spoils(book, (0, 0), row, (("one", 0),)), ("never", ((0, 0), (0, 1)))))
        self.assertEqual(spoils(book, (0, 0), row, (("one", 0), ("two", 0))), ("spoils", (("two", 0),)))

    def test_others_run_and_never_show(self):
        # A blind and a shown deed would do the same here, since the others run.
        for text in (PAIR, PAIR.replace("deed put 1", "deed put 1 blind")):
            self.assertEqual(spoils(Book(text), (0, 0), (LOOK,), (("put", 0),)), ("spoils", (("put", 0),)))

    def test_by_the_names_of_the_arguments(self):
        book = Book(PAIR)
        answer = spoils(letters=(("put", 0),), row=(LOOK,), store=(0, 0), book=book)
        self.assertIs(shows_spoils(value=answer, letters=(("put", 0),), row=(LOOK,), store=(0, 0), book=book), True)

    def test_errors_in_their_sequence(self):
        book = three_keys()
        for call, more in ((spoils, ()), (shows_spoils, (None,)), (bars, (None,)), (shows_bars, (None, None))):
            for value in WRONG_STORES:
                check_refused(self, BadStore, value, call, book, value, None, None, *more)
            for value, number in WRONG_ROWS:
                check_refused(self, BadRow, number, call, book, (0, 0, 0), value, None, *more)
            for value in WRONG_LETTER_SETS + tuple((letter,) for letter in WRONG_LETTERS):
                check_refused(self, BadLetters, value, call, book, (0, 0, 0), (), value, *more)

    def test_letters_are_ascending_as_tuples(self):
        book = three_keys()
        for letters in ((), (("look", 0),), (("put", 0), ("put", 1)), (("look", 0), ("put", 0), ("put", 1)),
                        (("look", 0), ("put", 1))):
            self.assertEqual(spoils(book, (0, 0, 0), (), letters), ("never", ((0, 0, 0),)))


class ShownSpoils(unittest.TestCase):
    CASES = (
        (FLIP, (0, 0), (LOOK,), (("flip", 0),)), (PAIR, (0, 0), (LOOK,), (("put", 0),)),
        (FAR, (1, 1), (LOOK,), (GROW_A, GROW_B)), (FAR, (0, 0), (("show", 0),), (("back", 0), GROW_B)),
        (PAIR, (0, 0), (("put", 0),), ()), (BOTH, (0, 1), (("two", 0),), (("one", 0), ("two", 0))),
    )

    def check_shown(self, expected, case, value):
        text, store, row, letters = case
        self.assertIs(shows_spoils(Book(text), store, row, letters, value), expected, (case, value))

    def test_each_change_of_an_answer(self):
        for case in self.CASES:
            text, store, row, letters = case
            book = Book(text)
            for value in changed(spoils(book, store, row, letters)):
                self.check_shown(is_right_spoils(book, store, row, letters, value), case, value)

    def test_any_set_of_stores(self):
        many = 0
        for case in self.CASES:
            text, store, row, letters = case
            book = Book(text)
            if len(book.stores) > 4:
                continue
            for size in range(len(book.stores) + 1):
                for stores in combinations(book.stores, size):
                    right = is_right_spoils(book, store, row, letters, ("never", stores))
                    self.check_shown(right, case, ("never", stores))
                    self.check_shown(False, case, ("never", list(stores)))
                    self.check_shown(right and size < 2, case, ("never", stores[::-1]))
                    many += right
        self.assertGreater(many, 5)

    def test_greater_closed_sets_of_stores(self):
        case = (BOTH, (1, 1), (("one", 0),), (("one", 0), ("two", 0)))
        self.check_shown(True, case, ("never", ((1, 1),)))
        self.check_shown(True, case, ("never", ((1, 0), (1, 1))))
        self.check_shown(False, case, ("never", ((0, 1), (1, 1))))
        self.check_shown(False, case, ("never", ((1, 0),)))
        self.check_shown(False, case, ("never", ()))

    def test_sets_in_which_the_row_tells_something_else_from_a_store_that_is_not_reached(self):
        # Of its own b would spoil nothing, but look tells it.
        book = Book(lined("key a 2", "key b 2", "deed look 1", "  say b", "deed put 1", "  set a 1"))
        case = (book.text, (0, 0), (LOOK,), (("put", 0),))
        self.check_shown(True, case, ("never", ((0, 0), (1, 0))))
        self.check_shown(False, case, ("never", ((0, 0), (0, 1), (1, 0), (1, 1))))
        self.check_shown(False, case, ("never", ((0, 0), (1, 0), (1, 1))))
        self.check_shown(False, case, ("never", ((0, 0),)))

    def test_a_member_from_which_the_row_is_spoilt_though_all_letters_lead_from_it_to_others(self):
        book = Book(lined("key a 2", "deed look 1", "  say a", "deed put 1", "  set a 0"))
        case = (book.text, (0,), (LOOK,), (("put", 0),))
        self.check_shown(True, case, ("never", ((0,),)))
        self.check_shown(False, case, ("never", ((0,), (1,))))
        self.check_shown(True, (book.text, (0,), (("put", 0),), (("put", 0),)), ("never", ((0,), (1,))))

    def test_rows_of_the_others(self):
        case = (FAR, (1, 1), (LOOK,), (GROW_A, GROW_B))
        for others, right in (
            ((GROW_A, GROW_B), True), ((GROW_B, GROW_A), True), ((GROW_A,), False), ((), False),
            ((GROW_A, GROW_A), False),
            ((GROW_A,) * 4 + (GROW_B,), True), ((GROW_B, GROW_A) + (GROW_A,) * 3, True), ((GROW_A, GROW_B) * 41, False),
            ((GROW_A, GROW_B) * 31, True), ((("back", 0), GROW_A, GROW_B), False), ((LOOK, GROW_A, GROW_B), False),
            ((GROW_A, ("grow", True)), False), (((GROW_A[0], False), GROW_B), False), ([GROW_A, GROW_B], False),
            ((GROW_A, ["grow", 1]), False), ((GROW_A, GROW_B, None), False), (GROW_A, False), (None, False),
            ((GROW_A, ("grow", 2)), False), ((GROW_A, "grow"), False),
            # Behind these the row tells again what it told.
            ((GROW_A, GROW_B, GROW_A), False),
        ):
            self.check_shown(right, case, ("spoils", others))
            self.check_shown(False, case, ("never", others))

    def test_rows_with_a_letter_that_the_others_may_not_run(self):
        case = (PAIR, (0, 0), (LOOK,), (LOOK,))
        self.check_shown(False, case, ("spoils", (("put", 0),)))
        self.check_shown(False, case, ("spoils", (LOOK, ("put", 0))))
        self.check_shown(False, case, ("spoils", (LOOK,)))
        self.check_shown(True, case, ("never", ((0, 0),)))

    def test_values_of_other_kinds(self):
        for case in self.CASES:
            for value in ANY_VALUES + (
                "never", "spoils", ("never",), ("spoils",), ("never", None), ("spoils", None), ("never", ()),
                ("spoils", ()), ("never", ((0, 0),), ()), (("never",), ((0, 0),)), (None, ((0, 0),)),
                ("Never", ((0, 0),)),
                ["never", ((0, 0),)], ("never", ((0, 0), None)), ("never", (None,)), ("never", nested(30)),
                ("spoils", nested(30)), nested(30), (True, ()), ("table", ((0, 0),)), ("never", {}), ("spoils", {}),
            ):
                self.check_shown(False, case, value)


class Bars(unittest.TestCase):
    def check_bars(self, book, store, row, letters, prices):
        answer = bars(book, store, row, letters, prices)
        ahead = []
        for price, barred in letter_sets(letters, prices):
            length = fewest(book, store, row, without(letters, barred))
            if length is None:
                break
            ahead.append((barred, length))
        with self.subTest(book=book.text, store=store, row=row, letters=letters, prices=prices):
            stores = tuple(sorted(reached(book, store, without(letters, barred))))
            self.assertTrue(same(answer[:3], (price, barred, stores)), answer)
            self.assertEqual([(reason[0], len(reason[1])) for reason in answer[3]], ahead)
            for barred_ahead, others in answer[3]:
                value = ("spoils", others)
                self.assertTrue(is_right_spoils(book, store, row, without(letters, barred_ahead), value))
            self.assertIs(shows_bars(book, store, row, letters, prices, answer), True)
            self.assertTrue(same(bars(Book(book.text), store, row, letters, prices), answer))
        return answer

    def test_each_book(self):
        found = []
        for book, store, row, letters in list(cases())[::4]:
            for prices in ((1,) * 8, (3, 1, 2, 9, 1, 1, 2, 4)):
                found.append(len(self.check_bars(book, store, row, letters[:5], prices[:len(letters[:5])])[1]))
        self.assertGreater(min(found.count(0), found.count(1), found.count(2)), 5)

    def test_letters_of_which_none_spoils(self):
        book = Book(FLIP)
        letters = (("flip", 0), LOOK)
        self.assertTrue(same(bars(book, (0, 0), (LOOK,), letters, (1, 1)), (0, (), ((0, 0), (1, 1)), ())))

    def test_no_letters_and_no_prices(self):
        self.assertTrue(same(bars(Book(PAIR), (0, 1), (LOOK,), (), ()), (0, (), ((0, 1),), ())))
        self.assertIs(shows_bars(Book(PAIR), (0, 1), (LOOK,), (), (), (0, (), ((0, 1),), ())), True)

    def test_all_letters_barred(self):
        book = Book(FAR)
        letters = (("back", 0), GROW_A)
        price, barred, stores, reasons = bars(book, (1, 0), (("show", 0),), letters, (9, 9))
        self.assertEqual((price, barred, stores), (18, letters, ((1, 0),)))
        self.assertEqual([reason[0] for reason in reasons], [(), letters[:1], letters[1:]])

    def test_letters_that_spoil_only_together(self):
        book = Book(FAR)
        letters = (GROW_A, GROW_B)
        self.assertEqual(bars(book, (1, 1), (LOOK,), letters, (1, 2))[:2], (1, (GROW_A,)))
        self.assertEqual(bars(book, (1, 1), (LOOK,), letters, (2, 1))[:2], (1, (GROW_B,)))
        self.assertEqual(bars(book, (1, 1), (LOOK,), letters, (2, 2))[:2], (2, (GROW_A,)))
        self.assertEqual(bars(book, (1, 1), (LOOK,), letters, (2, 2))[2], ((1, 0), (1, 1), (1, 2)))

    def test_sets_of_the_same_price_by_how_many_letters_they_have_then_as_tuples(self):
        # Only with all three of put barred nothing is spoilt.
        book = Book(lined("key a 3", "deed look 1", "  say a", "deed put 3", "  add a it + 1", "  add a 1"))
        letters = (LOOK, ("put", 0), ("put", 1), ("put", 2))
        answer = self.check_bars(book, (0,), (LOOK,), letters, (2, 1, 1, 1))
        barred = [reason[0] for reason in answer[3]]
        self.assertEqual(answer[:2], (2, (("put", 0), ("put", 2))))
        self.assertEqual(barred, [(), (("put", 0),), (("put", 1),), (("put", 2),), (LOOK,), (("put", 0), ("put", 1))])
        # Of the price 2, look alone comes ahead of any two; of the price 3, two come ahead of three.
        answer = self.check_bars(book, (0,), (LOOK,), letters, (1, 2, 1, 3))
        self.assertEqual([reason[0] for reason in answer[3]], [
            (), (LOOK,), (("put", 1),), (("put", 0),), (LOOK, ("put", 1)), (("put", 2),), (LOOK, ("put", 0)),
            (("put", 0), ("put", 1)), (LOOK, ("put", 2)), (("put", 1), ("put", 2)), (LOOK, ("put", 0), ("put", 1)),
        ])
        self.assertEqual(answer[:2], (5, (("put", 0), ("put", 2))))

    def test_by_the_names_of_the_arguments(self):
        book = Book(PAIR)
        answer = bars(prices=(1, 2), letters=(LOOK, ("put", 0)), row=(LOOK,), store=(0, 0), book=book)
        self.assertEqual(answer[:2], (2, (("put", 0),)))
        self.assertIs(shows_bars(value=answer, prices=(1, 2), letters=(LOOK, ("put", 0)), row=(LOOK,), store=(0, 0),
                                 book=book), True)

    def test_bad_prices(self):
        book = three_keys()
        for letters in ((), (("look", 0),), (("look", 0), ("put", 0), ("put", 1))):
            for value in wrong_prices(len(letters)):
                check_refused(self, BadPrices, value, bars, book, (0, 0, 0), (), letters, value)
                check_refused(self, BadPrices, value, shows_bars, book, (0, 0, 0), (), letters, value, None)
            for prices in ((1, 1, 1), (9, 9, 9), (1, 5, 9)):
                self.assertEqual(bars(book, (0, 0, 0), (), letters, prices[:len(letters)])[:2], (0, ()))


class ShownBars(unittest.TestCase):
    CASES = (
        (PAIR, (0, 0), (LOOK,), (LOOK, ("put", 0)), (1, 2)), (FAR, (1, 1), (LOOK,), (GROW_A, GROW_B), (1, 1)),
        (PAIR, (0, 1), (LOOK,), (), ()), (FLIP, (0, 0), (LOOK,), (("flip", 0),), (1,)),
        (FAR, (1, 0), (("show", 0),), (("back", 0), GROW_A), (9, 9)),
        (BOTH, (0, 1), (("two", 0),), (("one", 0),), (1,)),
        (BOTH, (1, 0), (("one", 0),), (("two", 0),), (1,)), (PAIR, (0, 0), (LOOK,), (("put", 0),), (1,)),
    )

    def is_right(self, book, store, row, letters, prices, value):
        right = bars(book, store, row, letters, prices)
        if type(value) is not tuple or len(value) != 4 or not same(value[:2], right[:2]):
            return False
        if not is_right_spoils(book, store, row, without(letters, right[1]), ("never", value[2])):
            return False
        if type(value[3]) is not tuple or len(value[3]) != len(right[3]):
            return False
        for member, (barred, _) in zip(value[3], right[3]):
            if type(member) is not tuple or len(member) != 2 or not same(member[0], barred):
                return False
            if not is_right_spoils(book, store, row, without(letters, barred), ("spoils", member[1])):
                return False
        return True

    def test_each_change_of_an_answer(self):
        for text, *arguments in self.CASES:
            book = Book(text)
            answer = bars(book, *arguments)
            self.assertTrue(self.is_right(book, *arguments, answer))
            for value in changed(answer):
                right = self.is_right(book, *arguments, value)
                self.assertIs(shows_bars(book, *arguments, value), right, (text, arguments, value))

    def test_any_stores_and_any_others_that_are_right(self):
        book = Book(BOTH)
        arguments = (book, (1, 0), (("one", 0),), (("one", 0), ("two", 0)), (1, 1))
        self.assertTrue(same(bars(*arguments), (0, (), ((1, 0),), ())))
        for stores, right in ((((1, 0),), True), (((1, 0), (1, 1)), True), (((1, 1),), False), ((), False),
                              (((0, 0), (1, 0)), False), (((1, 1), (1, 0)), False)):
            self.assertIs(shows_bars(*arguments, (0, (), stores, ())), right)
        book = Book(PAIR)
        arguments = (book, (0, 0), (LOOK,), (LOOK, ("put", 0)), (1, 2))
        price, barred, stores, reasons = bars(*arguments)
        put = ("put", 0)
        for one, other, right in (
            ((put,), (put,), True), ((LOOK, put, put), (put, put), True), ((put,), (LOOK, put), False),
            ((LOOK,), (put,), False), ((), (put,), False), ((put,), (), False), ((put, LOOK), (put,) * 50, True),
        ):
            value = (price, barred, stores, ((reasons[0][0], one), (reasons[1][0], other)))
            self.assertIs(shows_bars(*arguments, value), right, value)

    def test_another_set_and_another_price(self):
        book = Book(FAR)
        arguments = (book, (1, 1), (LOOK,), (GROW_A, GROW_B), (2, 2))
        price, barred, stores, reasons = bars(*arguments)
        self.assertEqual((price, barred, len(reasons)), (2, (GROW_A,), 1))
        self.assertIs(shows_bars(*arguments, (price, barred, stores, reasons)), True)
        other_stores = ((0, 1), (1, 1), (2, 1))
        for value in (
            (2, (GROW_B,), other_stores, reasons), (2, (GROW_B,), other_stores, reasons + (((GROW_A,), (GROW_B,)),)),
            (4, (GROW_A, GROW_B), ((1, 1),), reasons), (0, (), stores, ()), (2, (GROW_A,), stores, ()),
            (2, (GROW_A,), stores, reasons * 2), (2, [GROW_A], stores, reasons), (3, (GROW_A,), stores, reasons),
            (2, (("grow", False),), stores, reasons), (2, (GROW_A,), stores, (((), ()),)), (2, GROW_A, stores, reasons),
            (2, (GROW_A,), other_stores, reasons), ("2", (GROW_A,), stores, reasons), (2, (GROW_A,), stores),
            (2, (GROW_A,), stores, reasons, ()), [2, (GROW_A,), stores, reasons],
            (2, (GROW_A, GROW_A), stores, reasons),
        ):
            self.assertIs(shows_bars(*arguments, value), False, value)

    def test_reasons_exchanged_left_out_doubled(self):
        arguments = (Book(PAIR), (0, 0), (LOOK,), (LOOK, ("put", 0)), (1, 2))
        price, barred, stores, reasons = bars(*arguments)
        self.assertEqual([reason[0] for reason in reasons], [(), (LOOK,)])
        for wrong in (reasons[::-1], reasons[1:], reasons[:1], reasons + reasons[-1:], reasons[:1] + reasons, (),
                      list(reasons), reasons + ((barred, (LOOK,)),)):
            self.assertIs(shows_bars(*arguments, (price, barred, stores, wrong)), False, wrong)

    def test_a_price_of_0_is_not_false_and_one_of_1_is_not_true(self):
        arguments = (Book(PAIR), (0, 1), (LOOK,), (), ())
        self.assertIs(shows_bars(*arguments, (False, (), ((0, 1),), ())), False)
        arguments = (Book(PAIR), (0, 0), (LOOK,), (("put", 0),), (1,))
        answer = bars(*arguments)
        self.assertEqual(answer[:2], (1, (("put", 0),)))
        self.assertIs(shows_bars(*arguments, answer), True)
        self.assertIs(shows_bars(*arguments, (True,) + answer[1:]), False)
        self.assertIs(shows_bars(*arguments, (1, (("put", False),)) + answer[2:]), False)

    def test_values_of_other_kinds(self):
        for text, *arguments in self.CASES:
            for value in ANY_VALUES + (nested(30), (nested(30),) * 4, (0, (), None, ()), (0, (), ((0, 1),), None),
                                       (0, None, ((0, 1),), ()), (None, (), ((0, 1),), ()), ((), 0, (), ()), "0123",
                                       (0, (), {}, ()), (0, (), (), ()), (0, {}, ((0, 1),), ()), ("never", ((0, 0),))):
                self.assertIs(shows_bars(Book(text), *arguments, value), False, value)


if __name__ == "__main__":
    unittest.main()
