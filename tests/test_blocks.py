"""Point 19, the last part: blocks in which a shop shows."""

import unittest

from onlytell.books import Book
from onlytell.errors import NoDeed, OnlyError, Showing
from onlytell.shop import Shop
from tests.helpers import check_equal, lined, same
from tests.samples import BLIND_WITHIN, PAIR, SLY, all_kept
from tests.test_shop import check_state

PUT, LOOK = ("put", 0), ("look", 0)


class Failure(Exception):
    """What leaves a block in these tests."""


def pair_shop(worths=(0, 0)):
    book = Book(PAIR)
    return Shop(book, worths, memory=all_kept(book))


class Blocks(unittest.TestCase):
    def test_within_the_shop_shows_and_behind_it_is_as_it_was(self):
        shop = pair_shop()
        with shop.showing() as held:
            self.assertIs(held, shop)
            check_state(self, shop, (0, 0), (), True, ())
            shop.do("put")
            check_state(self, shop, (0, 0), (("a", 1), ("b", 1)), True, ())
        check_state(self, shop, (0, 0), (), False, ())

    def test_where_the_shop_shows_already(self):
        shop = pair_shop()
        shop.switch(True)
        shop.do("put")
        left = (("a", 1), ("b", 1))
        with shop.showing():
            # At first nothing is remembered.
            check_state(self, shop, (0, 0), (), True, ())
            self.assertEqual(shop.do("look").effects, (("say", 0),))
            check_state(self, shop, (0, 0), (), True, ())
        check_state(self, shop, (0, 0), left, True, ())
        self.assertEqual(shop.do("look").effects, (("say", 1),))

    def test_nothing_happens_until_the_block_is_entered(self):
        shop = pair_shop()
        block = shop.showing()
        check_state(self, shop, (0, 0), (), False, ())
        shop.do("put")
        with block:
            check_state(self, shop, (1, 1), (), True, (PUT,))
        check_state(self, shop, (1, 1), (), False, (PUT,))
        # It is restored to what it was when the block was entered, not when showing was called.
        block = shop.showing()
        shop.switch(True)
        shop.do("put")
        with block:
            shop.switch(False)
        check_state(self, shop, (1, 1), (("a", 1), ("b", 1)), True, (PUT,))

    def test_blocks_within_one_another(self):
        shop = pair_shop()
        with shop.showing() as one:
            shop.do("put")
            with shop.showing() as other:
                self.assertIs(one, other)
                check_state(self, shop, (0, 0), (), True, ())
                with shop.showing():
                    shop.do("put")
                    check_state(self, shop, (0, 0), (("a", 1), ("b", 1)), True, ())
                check_state(self, shop, (0, 0), (), True, ())
            check_state(self, shop, (0, 0), (("a", 1), ("b", 1)), True, ())
        check_state(self, shop, (0, 0), (), False, ())

    def test_one_object_entered_several_times(self):
        shop = pair_shop()
        block = shop.showing()
        for _ in range(3):
            with block as held:
                self.assertIs(held, shop)
                check_state(self, shop, (0, 0), (), True, ())
                shop.do("put")
            check_state(self, shop, (0, 0), (), False, ())
        shop.switch(True)
        shop.do("put")
        with block:
            check_state(self, shop, (0, 0), (), True, ())
        check_state(self, shop, (0, 0), (("a", 1), ("b", 1)), True, ())

    def test_one_object_entered_within_itself(self):
        shop = pair_shop()
        block = shop.showing()
        with block:
            shop.do("put")
            with block:
                check_state(self, shop, (0, 0), (), True, ())
                shop.switch(False)
                shop.do("put")
                with block, block:
                    check_state(self, shop, (1, 1), (), True, (PUT,))
                check_state(self, shop, (1, 1), (), False, (PUT,))
            check_state(self, shop, (1, 1), (("a", 1), ("b", 1)), True, (PUT,))
        check_state(self, shop, (1, 1), (), False, (PUT,))

    def test_switch_and_do_within(self):
        shop = pair_shop()
        with shop.showing():
            shop.switch(False)
            shop.do("put")
            shop.do("look")
            check_state(self, shop, (1, 1), (), False, (PUT, LOOK))
        # What was run stays done.
        check_state(self, shop, (1, 1), (), False, (PUT, LOOK))
        shop = pair_shop()
        shop.switch(True)
        with shop.showing():
            shop.switch(False)
        check_state(self, shop, (0, 0), (), True, ())
        with shop.showing():
            shop.do("put")
            shop.switch(True)
            check_state(self, shop, (0, 0), (), True, ())

    def test_previews_within(self):
        shop = pair_shop()
        with shop.showing():
            shop.do("put")
            preview = shop.preview((LOOK,))
            self.assertEqual((preview.tellings, shop.holds(preview)), (((("say", 0),),), True))
            with self.assertRaises(Showing):
                shop.make(preview)
            shop.switch(False)
            self.assertEqual(shop.make(preview), 1)
        check_state(self, shop, (0, 0), (), False, (LOOK,))

    def test_left_by_an_error_which_goes_on(self):
        for showing in (False, True):
            shop = pair_shop()
            shop.switch(showing)
            shop.do("put")
            left, worths = shop.left, shop.worths
            done = shop.done
            failure = Failure("here")
            with self.assertRaises(Failure) as caught:
                with shop.showing():
                    with shop.showing():
                        shop.do("put")
                        raise failure
            self.assertIs(caught.exception, failure)
            check_state(self, shop, worths, left, showing, done)
            with self.assertRaises(NoDeed):
                with shop.showing():
                    shop.do("no")
            check_state(self, shop, worths, left, showing, done)
            with self.assertRaises(OnlyError):
                with shop.showing():
                    shop.switch(False)
                    shop.do("put")
                    shop.switch(None)
            check_state(self, shop, (1, 1), left, showing, done + (PUT,))

    def test_an_error_that_is_caught_between_two_blocks(self):
        shop = pair_shop()
        with shop.showing():
            shop.do("put")
            try:
                with shop.showing():
                    raise Failure
            except Failure:
                check_state(self, shop, (0, 0), (("a", 1), ("b", 1)), True, ())
        check_state(self, shop, (0, 0), (), False, ())

    def test_what_blind_deeds_did_stays(self):
        shop = Shop(Book(SLY), (0,), memory=(("a", "row"),))
        with shop.showing():
            shop.do("put")
            check_state(self, shop, (1,), (), True, ())
        check_state(self, shop, (1,), (), False, ())
        shop = Shop(Book(BLIND_WITHIN), (0, 0, -1), memory=(("a", "row"),))
        with shop.showing():
            with self.assertRaises(Failure):
                with shop.showing():
                    shop.do("sly", 1)
                    raise Failure
        check_state(self, shop, (2, 1, -1), (), False, ())

    def test_blocks_of_two_shops(self):
        one, other = pair_shop(), pair_shop((1, 0))
        with one.showing(), other.showing():
            one.do("put")
            check_state(self, other, (1, 0), (), True, ())
        check_state(self, one, (0, 0), (), False, ())
        with one.showing():
            check_state(self, other, (1, 0), (), False, ())


class Tried(unittest.TestCase):
    def test_look_is_called_with_the_shop_within_a_block(self):
        shop = pair_shop()
        seen = []

        def look(held):
            seen.append((held is shop, held.is_showing, held.left))
            return [held.do("put").effects, held.left]

        self.assertEqual(shop.tried(look), [(("set", "a", 1), ("set", "b", 1)), (("a", 1), ("b", 1))])
        self.assertEqual(seen, [(True, True, ())])
        check_state(self, shop, (0, 0), (), False, ())
        shop.switch(True)
        shop.do("put")
        self.assertEqual(shop.tried(look=look)[1], (("a", 1), ("b", 1)))
        check_state(self, shop, (0, 0), (("a", 1), ("b", 1)), True, ())

    def test_it_returns_what_look_returns(self):
        shop = pair_shop()
        for value in (None, 0, False, (), "x", [1]):
            self.assertIs(shop.tried(lambda held: value), value)
        self.assertIs(shop.tried(lambda held: held), shop)

    def test_where_look_raises(self):
        shop = pair_shop()
        shop.switch(True)
        shop.do("put")
        failure = Failure("there")

        def look(held):
            held.do("put")
            held.switch(False)
            held.do("look")
            raise failure

        with self.assertRaises(Failure) as caught:
            shop.tried(look)
        self.assertIs(caught.exception, failure)
        check_state(self, shop, (0, 0), (("a", 1), ("b", 1)), True, (LOOK,))

    def test_within_itself_and_within_blocks(self):
        shop = pair_shop()
        self.assertEqual(shop.tried(lambda held: (held.do("put"), held.tried(lambda inner: inner.left), held.left)[1:]),
                         ((), (("a", 1), ("b", 1))))
        with shop.showing():
            shop.do("put")
            self.assertEqual(shop.tried(lambda held: held.left), ())
            self.assertEqual(shop.left, (("a", 1), ("b", 1)))
        check_state(self, shop, (0, 0), (), False, ())

    def test_previews_that_look_makes(self):
        shop = pair_shop()
        preview = shop.tried(lambda held: held.preview((PUT,)))
        self.assertEqual((shop.make(preview), shop.worths), (1, (1, 1)))


class Copies(unittest.TestCase):
    def test_a_copy_made_within_blocks_is_as_if_all_had_been_left(self):
        shop = pair_shop()
        shop.do("look")
        with shop.showing():
            shop.do("put")
            one = shop.copy()
            with shop.showing():
                shop.switch(False)
                shop.do("put")
                other = shop.copy()
                shop.do("look")
            inner = shop.copy()
        check_state(self, one, (0, 0), (), False, (LOOK,))
        check_state(self, other, (1, 1), (), False, (LOOK, PUT))
        check_state(self, inner, (1, 1), (), False, (LOOK, PUT, LOOK))
        check_equal(self, inner, shop, True)

    def test_a_shop_that_showed_as_the_outermost_block_was_entered(self):
        shop = pair_shop()
        shop.switch(True)
        shop.do("put")
        with shop.showing():
            with shop.showing():
                shop.do("put")
                with shop.showing():
                    copy = shop.copy()
            self.assertNotEqual(copy, shop)
        check_state(self, copy, (0, 0), (("a", 1), ("b", 1)), True, ())
        self.assertEqual(copy, shop)

    def test_a_copy_is_in_no_block(self):
        shop = pair_shop()
        with shop.showing():
            copy = shop.copy()
            copy.switch(True)
            copy.do("put")
            copy.switch(False)
            copy.do("put")
            check_state(self, copy, (1, 1), (), False, (PUT,))
            check_state(self, shop, (0, 0), (), True, ())
        check_state(self, copy, (1, 1), (), False, (PUT,))
        with copy.showing():
            check_state(self, copy.copy(), (1, 1), (), False, (PUT,))
            check_state(self, copy, (1, 1), (), True, (PUT,))

    def test_blocks_of_the_shop_do_not_enter_the_copy(self):
        shop = pair_shop()
        block = shop.showing()
        copy = shop.copy()
        with block as held:
            self.assertIs(held, shop)
            check_state(self, copy, (0, 0), (), False, ())

    def test_behind_a_block_a_copy_is_as_the_shop(self):
        shop = pair_shop()
        with shop.showing():
            pass
        shop.switch(True)
        shop.do("put")
        check_state(self, shop.copy(), (0, 0), (("a", 1), ("b", 1)), True, ())
        with self.assertRaises(Failure):
            with shop.showing():
                raise Failure
        shop.switch(False)
        check_state(self, shop.copy(), (0, 0), (), False, ())

    def test_what_blind_deeds_did_and_what_was_run_is_in_the_copy(self):
        shop = Shop(Book(SLY), (0,), memory=(("a", "row"),))
        with shop.showing():
            shop.do("put")
            check_state(self, shop.copy(), (1,), (), False, ())


class Equality(unittest.TestCase):
    def test_within_blocks_it_is_what_is_now_that_counts(self):
        shop, other = pair_shop(), pair_shop()
        with shop.showing():
            check_equal(self, shop, other, False)
            other.switch(True)
            check_equal(self, shop, other, True)
            shop.do("put")
            check_equal(self, shop, other, False)
            other.do("put")
            check_equal(self, shop, other, True)
        check_equal(self, shop, other, False)
        other.switch(False)
        check_equal(self, shop, other, True)

    def test_blocks_that_are_alike(self):
        shop, other = pair_shop(), pair_shop()
        with shop.showing(), other.showing(), other.showing():
            check_equal(self, shop, other, True)


class Books(unittest.TestCase):
    def test_guarantee_g_a_show_without_blind_deeds_changes_nothing(self):
        book = Book(lined("key a 2", "may m 2", "deed put 2", "  set a it", "  drop m", "deed grow 1", "  add a 1",
                          "  if has m", "    refuse no"))
        for store in book.stores:
            for memory in ((), all_kept(book)):
                shop = Shop(book, store, memory=memory)
                with shop.showing():
                    for letter in book.letters * 3:
                        shop.do(*letter)
                        self.assertTrue(same(shop.worths, store))
                check_state(self, shop, store, (), False, ())


if __name__ == "__main__":
    unittest.main()
