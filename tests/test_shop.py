"""Point 19, the first part: deeds that are run and shown in a shop, and previews that are made."""

import random
import unittest

from onlytell.books import Book
from onlytell.errors import (
    BadInput, BadMemory, BadRow, BadStore, BadSwitch, NoDeed, OtherPreview, Showing, Spoilt,
)
from onlytell.running import ran
from onlytell.shop import Preview, Shop
from onlytell.showing import shown
from onlytell.stamps import reads
from onlytell.stores import Store
from onlytell.tellings import Telling
from tests.helpers import ANY_VALUES, check_equal, check_refused, lined, nested, same, three_keys
from tests.samples import (
    BLIND_WITHIN, FLIP, GONE, PAIR, SAMPLES, SLY, WRONG_MEMORIES, WRONG_ROWS, WRONG_STORES, all_kept, memories_of,
    small_rows,
)

PUT, LOOK = ("put", 0), ("look", 0)
MEMORY = (("a", "deed"), ("b", "row"))

# quiet says 1 by either a, but it reads a; look tells a and m.
SPARE = lined("key a 2", "may m 2", "deed quiet 1", "  if a = 0", "    say 1", "  else", "    say 1", "deed put 2",
              "  set a it", "  set m it", "deed look 1", "  say a", "  if has m", "    say m")


def state_of(shop):
    """All that a shop tells of itself."""
    return (shop.book, shop.memory, shop.worths, shop.left, shop.is_showing, shop.done)


def check_state(case, shop, worths, left, is_showing, done):
    case.assertTrue(same(state_of(shop)[2:], (worths, left, is_showing, done)), state_of(shop)[2:])


class Made(unittest.TestCase):
    def test_at_first(self):
        for book in SAMPLES:
            for memory in memories_of(book):
                for store in book.stores[::5]:
                    shop = Shop(book, store, memory=memory)
                    self.assertIs(shop.book, book)
                    self.assertTrue(same(shop.memory, memory))
                    check_state(self, shop, store, (), False, ())

    def test_without_a_memory_and_by_the_names(self):
        book = Book(PAIR)
        self.assertTrue(same(Shop(book, (0, 0)).memory, ()))
        shop = Shop(memory=MEMORY, worths=(0, 1), book=book)
        self.assertTrue(same((shop.memory, shop.worths), (MEMORY, (0, 1))))
        with self.assertRaises(TypeError):
            Shop(book, (0, 0), ())

    def test_errors_in_their_sequence(self):
        book = three_keys()
        for value in WRONG_STORES:
            check_refused(self, BadStore, value, lambda worths: Shop(book, worths, memory=[None]), value)
        for value in WRONG_MEMORIES:
            check_refused(self, BadMemory, value, lambda memory: Shop(book, (0, 0, 0), memory=memory), value)


class Do(unittest.TestCase):
    def check_do(self, shop, deed, it, effects):
        telling = shop.do(deed, it)
        self.assertIsInstance(telling, Telling)
        self.assertIs(telling.book, shop.book)
        self.assertTrue(same(telling.effects, effects), telling.effects)

    def test_a_run(self):
        shop = Shop(Book(PAIR), (0, 0), memory=MEMORY)
        self.check_do(shop, "put", 0, (("set", "a", 1), ("set", "b", 1)))
        check_state(self, shop, (1, 1), (), False, (PUT,))
        self.check_do(shop, "look", 0, (("say", 1),))
        check_state(self, shop, (1, 1), (), False, (PUT, LOOK))

    def test_a_show(self):
        shop = Shop(Book(PAIR), (0, 0), memory=MEMORY)
        shop.switch(True)
        self.check_do(shop, "put", 0, (("set", "a", 1), ("set", "b", 1)))
        check_state(self, shop, (0, 0), (("b", 1),), True, ())
        self.check_do(shop, "look", 0, (("say", 1),))
        check_state(self, shop, (0, 0), (("b", 1),), True, ())
        shop.switch(False)
        self.check_do(shop, "look", 0, (("say", 0),))
        check_state(self, shop, (0, 0), (), False, (LOOK,))

    def test_by_position_by_name_and_without_the_input(self):
        text = lined("key a 3", "deed put 3", "  set a it")
        for call, it in ((lambda shop: shop.do("put"), 0), (lambda shop: shop.do("put", 2), 2),
                         (lambda shop: shop.do("put", it=2), 2), (lambda shop: shop.do(deed="put"), 0),
                         (lambda shop: shop.do(it=1, deed="put"), 1)):
            shop = Shop(Book(text), (1,))
            self.assertTrue(same(call(shop).effects, (("set", "a", it),)))
            check_state(self, shop, (it,), (), False, (("put", it),))

    def test_rows_of_runs_and_of_shows(self):
        for book in SAMPLES:
            row = book.letters + book.letters[::-1]
            for memory in list(memories_of(book))[::3]:
                for store in book.stores[::4]:
                    shop, other = Shop(book, store, memory=memory), Shop(book, store, memory=memory)
                    other.switch(True)
                    tellings, behind = ran(book, store, row)
                    self.assertTrue(same(tuple(shop.do(*letter).effects for letter in row), tellings))
                    check_state(self, shop, behind, (), False, row)
                    tellings, base, left = shown(book, store, memory, row)
                    self.assertTrue(same(tuple(other.do(*letter).effects for letter in row), tellings))
                    check_state(self, other, base, left, True, ())

    def test_refused_letters_are_done_too(self):
        shop = Shop(Book(GONE), (0, 0, -1))
        self.check_do(shop, "grow", 0, (("add", "a", 1), ("add", "n", 1), ("drop", "n")))
        self.check_do(shop, "look", 0, (("refused", ("look",), "lacks"),))
        check_state(self, shop, (-1, 1, -1), (), False, (("grow", 0), ("look", 0)))

    def test_blind_deeds_change_the_worths_while_the_shop_shows(self):
        shop = Shop(Book(SLY), (0,), memory=(("a", "row"),))
        shop.switch(True)
        self.check_do(shop, "put", 0, (("set", "a", 1),))
        check_state(self, shop, (1,), (), True, ())

    def test_what_is_refused_changes_nothing(self):
        for showing in (False, True):
            shop = Shop(three_keys(), (0, -1, 2), memory=(("a", "row"),))
            shop.switch(showing)
            before = state_of(shop)
            for value in ANY_VALUES + ("a", "Put", "put ", ("put", 0), ["put"], nested(30)):
                if value != "put":
                    check_refused(self, NoDeed, value, shop.do, value)
                    check_refused(self, NoDeed, value, shop.do, value, 9)
            for name, size in (("put", 2), ("look", 1)):
                for value in ANY_VALUES + (2, -1, True, False, "0", None, (0,), [0], 10 ** 30, nested(30)):
                    if not (type(value) is int and 0 <= value < size):
                        check_refused(self, BadInput, value, shop.do, name, value)
            self.assertTrue(same(state_of(shop)[1:], before[1:]))


class Switch(unittest.TestCase):
    def test_to_what_it_is_not_and_to_what_it_is(self):
        shop = Shop(Book(PAIR), (0, 0), memory=all_kept(Book(PAIR)))
        for on in (False, True, True, False, True, False, False):
            self.assertIsNone(shop.switch(on))
            check_state(self, shop, (0, 0), (), on, ())
        shop.switch(on=True)
        shop.do("put")
        check_state(self, shop, (0, 0), (("a", 1), ("b", 1)), True, ())
        # What is remembered is forgotten, also if it showed already.
        shop.switch(True)
        check_state(self, shop, (0, 0), (), True, ())
        shop.do("put")
        shop.switch(False)
        check_state(self, shop, (0, 0), (), False, ())

    def test_values_that_are_no_bools(self):
        for showing in (False, True):
            shop = Shop(Book(PAIR), (0, 0), memory=MEMORY)
            shop.switch(showing)
            shop.do("put")
            before = state_of(shop)
            for value in ANY_VALUES + (1, 0, None, "True", "", (True,), [False], 2, nested(30)):
                if not isinstance(value, bool):
                    check_refused(self, BadSwitch, value, shop.switch, value)
            self.assertTrue(same(state_of(shop)[1:], before[1:]))


class Previews(unittest.TestCase):
    def test_what_a_preview_has(self):
        for book in SAMPLES:
            for row in list(small_rows(book, 2))[::3]:
                for store in book.stores[::4]:
                    shop = Shop(book, store)
                    preview = shop.preview(row)
                    self.assertIsInstance(preview, Preview)
                    self.assertIs(preview.book, book)
                    self.assertTrue(same(preview.row, row))
                    self.assertTrue(same(preview.tellings, ran(book, store, row)[0]))
                    worths = {key_row[0]: worth for key_row, worth in zip(book.key_rows, store)}
                    self.assertTrue(same(preview.looked, tuple((key, worths[key]) for key in reads(book, store, row))))
                    check_state(self, shop, store, (), False, ())

    def test_a_key_that_is_gone(self):
        preview = Shop(Book(GONE), (-1, 0, -1)).preview((LOOK,))
        self.assertTrue(same(preview.looked, (("m", -1), ("n", -1))))

    def test_while_the_shop_shows_it_is_a_run_from_the_present_worths(self):
        shop = Shop(Book(PAIR), (0, 0), memory=MEMORY)
        shop.switch(True)
        shop.do("put")
        preview = shop.preview((LOOK,))
        self.assertTrue(same((preview.tellings, preview.looked), (((("say", 0),),), (("b", 0),))))
        check_state(self, shop, (0, 0), (("b", 1),), True, ())
        shop = Shop(Book(SLY), (0,))
        shop.switch(True)
        shop.do("put")
        self.assertEqual(shop.preview(row=(LOOK,)).looked, (("a", 1),))

    def test_it_stays_as_it_was(self):
        shop = Shop(Book(PAIR), (0, 0))
        preview = shop.preview((LOOK,))
        shop.do("put")
        self.assertTrue(same((preview.row, preview.tellings, preview.looked), ((LOOK,), ((("say", 0),),), (("b", 0),))))

    def test_bad_rows(self):
        shop = Shop(three_keys(), (0, 0, 0))
        for value, number in WRONG_ROWS:
            check_refused(self, BadRow, number, shop.preview, value)
        check_state(self, shop, (0, 0, 0), (), False, ())


class Make(unittest.TestCase):
    def test_a_preview_that_still_holds(self):
        shop = Shop(Book(PAIR), (0, 0), memory=MEMORY)
        preview = shop.preview((PUT, LOOK))
        self.assertIs(shop.holds(preview), True)
        self.assertTrue(same(shop.make(preview), 2))
        check_state(self, shop, (1, 1), (), False, (PUT, LOOK))
        self.assertTrue(same(shop.make(preview=preview), 2))
        check_state(self, shop, (1, 1), (), False, (PUT, LOOK) * 2)

    def test_the_empty_row(self):
        shop = Shop(Book(PAIR), (0, 0))
        self.assertTrue(same(shop.make(shop.preview(())), 0))
        check_state(self, shop, (0, 0), (), False, ())

    def test_the_row_is_run_from_the_present_worths(self):
        shop = Shop(Book(lined("key a 3", "deed grow 1", "  add a 1", "deed look 1", "  say a")), (0,))
        preview = shop.preview((("grow", 0),))
        shop.do("grow")
        self.assertEqual((shop.make(preview), shop.worths, shop.done), (1, (2,), (("grow", 0),) * 2))

    def test_spoilt_with_the_number_of_the_first_letter_that_would_tell_something_else(self):
        for row, number in (((LOOK,), 0), ((("quiet", 0), LOOK), 1), ((("quiet", 0), ("quiet", 0), LOOK, LOOK), 2),
                            ((LOOK, ("put", 1), LOOK), 0)):
            shop = Shop(Book(SPARE), (0, -1))
            preview = shop.preview(row)
            shop.do("put", 1)
            before = state_of(shop)
            check_refused(self, Spoilt, number, shop.make, preview)
            self.assertTrue(same(state_of(shop)[1:], before[1:]))
            shop.switch(True)
            shop.switch(False)
            check_refused(self, Spoilt, number, shop.make, preview)

    def test_spoilt_at_a_letter_behind_one_that_changes_the_store(self):
        # put and the look at a tell the same again; the looks at b do not.
        text = lined("key a 2", "key b 2", "deed put 1", "  set a 1", "deed look 2", "  if it = 0", "    say a",
                     "  else",
                     "    say b", "deed other 1", "  set b 1")
        shop = Shop(Book(text), (0, 0))
        preview = shop.preview((("put", 0), ("look", 0), ("look", 1), ("look", 1)))
        shop.do("other")
        check_refused(self, Spoilt, 2, shop.make, preview)
        check_state(self, shop, (0, 1), (), False, (("other", 0),))

    def test_while_it_shows(self):
        shop = Shop(Book(PAIR), (0, 0), memory=MEMORY)
        preview = shop.preview((LOOK,))
        shop.switch(True)
        shop.do("put")
        check_refused(self, Showing, None, shop.make, preview)
        check_state(self, shop, (0, 0), (("b", 1),), True, ())
        shop.switch(False)
        self.assertEqual(shop.make(preview), 1)

    def test_showing_comes_ahead_of_spoilt(self):
        shop = Shop(Book(PAIR), (0, 0))
        preview = shop.preview((LOOK,))
        shop.do("put")
        check_refused(self, Spoilt, 0, shop.make, preview)
        shop.switch(True)
        check_refused(self, Showing, None, shop.make, preview)

    def test_previews_of_other_books_and_other_values(self):
        book = Book(PAIR)
        other = Shop(Book(PAIR + "\ndeed more 1\n  end"), (0, 0)).preview((LOOK,))
        for showing in (False, True):
            shop = Shop(book, (0, 0), memory=MEMORY)
            preview = shop.preview((LOOK,))
            shop.switch(showing)
            before = state_of(shop)
            for call in (shop.make, shop.holds):
                for value in ANY_VALUES + (preview.row, preview.tellings, shop, book, nested(30), Preview):
                    check_refused(self, OtherPreview, value, call, value)
                with self.assertRaises(OtherPreview) as caught:
                    call(other)
                self.assertIs(caught.exception.value, other)
            self.assertTrue(same(state_of(shop)[1:], before[1:]))

    def test_previews_of_an_equal_book_and_of_another_shop(self):
        shop, other = Shop(Book(PAIR), (0, 0)), Shop(Book(PAIR), (1, 0), memory=MEMORY)
        preview = other.preview((LOOK, PUT))
        self.assertEqual((shop.holds(preview), shop.make(preview), shop.worths), (True, 2, (1, 1)))
        self.assertEqual(other.worths, (1, 0))

    def test_make_leads_where_the_tellings_lead(self):
        # Guarantee (e).
        chance = random.Random(19)
        for book in SAMPLES:
            for row in list(small_rows(book, 2))[::4]:
                for store in book.stores[::5]:
                    shop = Shop(book, store)
                    preview = shop.preview(row)
                    for _ in range(2):
                        shop.do(*chance.choice(book.letters))
                    kept = Store(book, shop.worths)
                    if ran(book, shop.worths, row)[0] == preview.tellings:
                        kept |= Telling(book, sum(preview.tellings, ()))
                        self.assertEqual((shop.make(preview), shop.worths), (len(row), kept.worths))
                    else:
                        with self.assertRaises(Spoilt):
                            shop.make(preview)


class Holds(unittest.TestCase):
    def test_all_keys_that_were_read_have_their_worths(self):
        shop = Shop(Book(SPARE), (0, -1))
        looks, quiet = shop.preview((LOOK,)), shop.preview((("quiet", 0),))
        nothing, empty = shop.preview((("put", 1),)), shop.preview(())
        self.assertEqual([shop.holds(x) for x in (looks, quiet, nothing, empty)], [True] * 4)
        shop.do("put", 0)
        self.assertEqual([shop.holds(x) for x in (looks, quiet, nothing, empty)], [False, True, True, True])
        shop.do("put", 1)
        self.assertEqual([shop.holds(x) for x in (looks, quiet, nothing, empty)], [False, False, True, True])
        check_state(self, shop, (1, 1), (), False, (("put", 0), ("put", 1)))

    def test_a_preview_that_is_spoilt_by_its_looks_though_the_row_would_tell_the_same(self):
        shop = Shop(Book(SPARE), (0, 0))
        quiet = shop.preview((("quiet", 0),))
        shop.do("put", 1)
        self.assertIs(shop.holds(preview=quiet), False)
        self.assertEqual(shop.make(quiet), 1)

    def test_in_the_store_of_the_shop_whether_it_shows_or_not(self):
        shop = Shop(Book(PAIR), (0, 0), memory=MEMORY)
        preview = shop.preview((LOOK,))
        shop.switch(True)
        shop.do("put")
        check_state(self, shop, (0, 0), (("b", 1),), True, ())
        self.assertIs(shop.holds(preview), True)
        sly = Shop(Book(SLY), (0,))
        preview = sly.preview((LOOK,))
        sly.switch(True)
        sly.do("put")
        self.assertIs(sly.holds(preview), False)

    def test_then_make_is_not_spoilt(self):
        many = 0
        for book in SAMPLES:
            for row in list(small_rows(book, 2))[::5]:
                for store in book.stores[::3]:
                    preview = Shop(book, store).preview(row)
                    for other in book.stores:
                        shop = Shop(book, other)
                        worths = {key_row[0]: worth for key_row, worth in zip(book.key_rows, other)}
                        held = all(worths[key] == worth for key, worth in preview.looked)
                        self.assertIs(shop.holds(preview), held)
                        if held:
                            self.assertEqual(shop.make(preview), len(row))
                            many += 1
        self.assertGreater(many, 500)


class Copies(unittest.TestCase):
    def test_alike_in_all_things_and_independent(self):
        for showing in (False, True):
            shop = Shop(Book(BLIND_WITHIN), (0, 0, 0), memory=(("a", "row"), ("b", "deed")))
            shop.do("low")
            shop.switch(showing)
            shop.do("top")
            other = shop.copy()
            self.assertIsInstance(other, Shop)
            self.assertIsNot(other, shop)
            self.assertTrue(same(state_of(other)[1:], state_of(shop)[1:]))
            self.assertEqual(other.book, shop.book)
            check_equal(self, shop, other, True)
            before = state_of(shop)
            other.do("low")
            other.switch(not showing)
            other.do("sly")
            self.assertTrue(same(state_of(shop)[1:], before[1:]))
            self.assertNotEqual(other, shop)
            kept = state_of(other)
            shop.do("sly")
            self.assertTrue(same(state_of(other)[1:], kept[1:]))

    def test_previews_of_the_one_are_made_by_the_other(self):
        shop = Shop(Book(PAIR), (0, 0))
        preview = shop.preview((PUT,))
        self.assertEqual(shop.copy().make(preview), 1)
        self.assertEqual(shop.worths, (0, 0))


class Equality(unittest.TestCase):
    def made(self, text=PAIR, worths=(0, 0), memory=MEMORY, showing=False, row=()):
        shop = Shop(Book(text), worths, memory=memory)
        shop.switch(showing)
        for letter in row:
            shop.do(*letter)
        return shop

    def test_equal_shops(self):
        for showing in (False, True):
            for row in ((), (PUT,), (LOOK, PUT)):
                check_equal(self, self.made(showing=showing, row=row), self.made(showing=showing, row=row), True)
        shop = self.made()
        check_equal(self, shop, shop, True)

    def test_what_was_done_does_not_count(self):
        check_equal(self, self.made(row=(LOOK,)), self.made(), True)
        check_equal(self, self.made(row=(PUT,)), self.made(worths=(1, 1)), True)

    def test_other_shops(self):
        check_equal(self, self.made(), self.made(worths=(0, 1)), False)
        check_equal(self, self.made(), self.made(memory=()), False)
        check_equal(self, self.made(), self.made(memory=(("a", "row"), ("b", "row"))), False)
        check_equal(self, self.made(), self.made(showing=True), False)
        check_equal(self, self.made(), self.made(text=PAIR + "\ndeed more 1\n  end"), False)
        check_equal(self, self.made(showing=True, row=(PUT,)), self.made(showing=True), False)
        check_equal(self, self.made(showing=True, row=(PUT,)), self.made(showing=True, row=(LOOK,)), False)
        check_equal(self, self.made(text=FLIP), self.made(text=PAIR), False)

    def test_other_values(self):
        shop = self.made()
        for value in ANY_VALUES + (shop.book, Store(shop.book, (0, 0)), shop.preview(()), (0, 0), nested(30), Shop,
                                   object()):
            check_equal(self, shop, value, False)


if __name__ == "__main__":
    unittest.main()
