"""Point 3: the guarantees over the whole program, by rows, steps and blocks that are chosen by chance."""

import random
import unittest

from onlytell.beside import beside
from onlytell.books import Book
from onlytell.errors import BadSteps, Spoilt
from onlytell.hands import checks, in_turn, played
from onlytell.harm import harm
from onlytell.running import ran
from onlytell.shop import Shop
from onlytell.showing import shown
from onlytell.spoiling import bars
from onlytell.stamps import hangs, reads, stamps
from onlytell.wishes import leads
from tests.hand_oracles import acted_in_turn, are_done
from tests.samples import BOTH, SAMPLES, all_kept, is_without_blind_deeds, memories_of


def rows_by_chance(chance, book, many, most=12):
    for _ in range(many):
        yield tuple(chance.choice(book.letters) for _ in range(chance.randint(1, most)))


class Guarantees(unittest.TestCase):
    def test_a_machines_that_are_alike_tell_the_same_by_all_rows(self):
        chance = random.Random(1)
        for book in SAMPLES:
            for memory in list(memories_of(book))[::2]:
                answer = beside(book, ("run",), book, ("show", memory))
                if answer[0] == "alike":
                    for row in rows_by_chance(chance, book, 10):
                        store = chance.choice(book.stores)
                        self.assertEqual(ran(book, store, row)[0], shown(book, store, memory, row)[0])
                else:
                    _, store, row = answer
                    self.assertNotEqual(ran(book, store, row)[0][-1], shown(book, store, memory, row)[0][-1])
                    for other in rows_by_chance(chance, book, 10, len(row) - 1) if len(row) > 1 else ():
                        store = chance.choice(book.stores)
                        self.assertEqual(ran(book, store, other)[0], shown(book, store, memory, other)[0])

    def test_b_a_show_that_is_harmless_changes_no_store(self):
        chance = random.Random(2)
        for book in SAMPLES:
            for memory in list(memories_of(book))[::3]:
                harmless = harm(book, memory)[0] == "none"
                changes = [shown(book, store, memory, row)[1] != store
                           for row in rows_by_chance(chance, book, 10) for store in book.stores[::3]]
                self.assertLessEqual(harmless, not any(changes))
                if is_without_blind_deeds(book):
                    self.assertIs(harmless, True)

    def test_c_no_cheaper_keys_and_no_cheaper_bars_are_good(self):
        chance = random.Random(3)
        for book in SAMPLES:
            for row in rows_by_chance(chance, book, 3, 3):
                store = chance.choice(book.stores)
                price, keys, reasons = stamps(book, store, row, tuple(chance.randint(1, 9) for _ in book.key_rows))
                for _, other in reasons:
                    self.assertNotEqual(ran(book, other, row)[0], ran(book, store, row)[0])
                letters = tuple(sorted(book.letters))
                price, barred, stores, reasons = bars(book, store, row, letters,
                                                      tuple(chance.randint(1, 9) for _ in letters))
                for _, others in reasons:
                    self.assertNotEqual(ran(book, ran(book, store, others)[1], row)[0], ran(book, store, row)[0])
                left = [letter for letter in letters if letter not in barred]
                for _ in range(20 if left else 0):
                    others = tuple(chance.choice(left) for _ in range(6))
                    self.assertEqual(ran(book, ran(book, store, others)[1], row)[0], ran(book, store, row)[0])

    def test_d_good_as_long_as_the_stamps_hold(self):
        chance = random.Random(4)
        for book in SAMPLES:
            places = {row[0]: place for place, row in enumerate(book.key_rows)}
            for row in rows_by_chance(chance, book, 8, 3):
                store = chance.choice(book.stores)
                hanging = [key for key, _, _ in hangs(book, row)]
                for keys in (stamps(book, store, row, (1,) * len(places))[1], reads(book, store, row)):
                    for other in book.stores:
                        if all(store[places[key]] == other[places[key]] for key in keys):
                            self.assertEqual(ran(book, other, row)[0], ran(book, store, row)[0])
                # What the tellings hang on from no store is needed from none.
                self.assertLessEqual(set(stamps(book, store, row, (1,) * len(places))[1]), set(hanging))

    def test_e_what_is_previewed_may_be_made_later(self):
        chance = random.Random(5)
        made = 0
        for book in SAMPLES:
            for row in rows_by_chance(chance, book, 20, 3):
                shop = Shop(book, chance.choice(book.stores))
                preview = shop.preview(row)
                for letter in chance.choices(book.letters, k=2):
                    shop.do(*letter)
                before = shop.copy()
                expected = ran(book, shop.worths, row)
                try:
                    self.assertEqual(shop.make(preview), len(row))
                    self.assertEqual((expected[0], shop.worths), (preview.tellings, expected[1]))
                    made += 1
                except Spoilt as error:
                    self.assertNotEqual(expected[0][error.value], preview.tellings[error.value])
                    self.assertEqual(expected[0][:error.value], preview.tellings[:error.value])
                    self.assertEqual((shop, shop.done, shop.holds(preview)), (before, before.done, False))
        self.assertGreater(made, 50)

    def test_f_hands_that_are_reported_to_act_in_turn_do_so(self):
        chance = random.Random(6)
        ends = 0
        for book in SAMPLES:
            rows = tuple(rows_by_chance(chance, book, 2, 2))
            names = sorted(row[0] for row in book.key_rows)
            answer = checks(book, rows, tuple(((number, name), 1) for number, name in ((0, names[0]), (1, names[-1]))))
            choice = answer[2] if answer[0] == "choice" else None
            full = tuple((row, tuple(sorted({key for store in book.stores for key in reads(book, store,
                                                                                           row)}))) for row in rows)
            self.assertEqual(in_turn(book, full)[0], "turns")
            chosen = [full]
            if choice is not None:
                chosen.append(tuple((row, tuple(key for at, key in choice if at == number)) for number,
                                    row in enumerate(rows)))
            for hands in chosen:
                for _ in range(30):
                    store, steps = chance.choice(book.stores), ()
                    for _ in range(14):
                        step = (chance.choice(("look", "put")), chance.randrange(2))
                        try:
                            played(book, store, hands, steps + (step,))
                            steps = steps + (step,)
                        except BadSteps as error:
                            self.assertEqual(error.value, len(steps))
                    behind, marks = played(book, store, hands, steps)
                    if are_done(marks):
                        self.assertTrue(acted_in_turn(book, hands, store, behind, marks))
                        ends += 1
        self.assertGreater(ends, 100)

    def test_g_a_show_without_blind_deeds_changes_nothing(self):
        chance = random.Random(7)
        for book in SAMPLES:
            taught = book.taught(tuple(sorted(row[0] for row in book.deeds if row[2])))
            for memory in ((), all_kept(book)):
                for store in book.stores[::4]:
                    shop = Shop(taught, store, memory=memory)
                    with shop.showing():
                        for letter in chance.choices(book.letters, k=10):
                            shop.do(*letter)
                            self.assertEqual(shop.worths, store)
                    self.assertEqual((shop, shop.done), (Shop(taught, store, memory=memory), ()))


class Beside(unittest.TestCase):
    """What one function returns, passed to others."""

    def test_rows_to_wishes_lead_there_in_a_shop(self):
        for book in SAMPLES:
            for memory in ((), all_kept(book)):
                for name, size, _ in book.key_rows:
                    store = book.stores[0]
                    machine = ("show", memory)
                    answer = leads(book, machine, store, ((name, size - 1),), (1,) * len(book.letters))
                    if answer[0] == "row":
                        shop = Shop(book, store, memory=memory)
                        shop.switch(True)
                        for letter in answer[2]:
                            shop.do(*letter)
                        worths = dict(zip([row[0] for row in book.key_rows], shop.worths))
                        self.assertEqual({**worths, **dict(shop.left)}[name], size - 1)

    def test_a_mixed_answer_is_played_to_its_end(self):
        book = Book(BOTH)
        hands = (((("one", 0),), ()), ((("two", 0),), ()))
        _, store, steps = in_turn(book, hands)
        behind, marks = played(book, store, hands, steps)
        self.assertTrue(are_done(marks))
        self.assertFalse(acted_in_turn(book, hands, store, behind, marks))


if __name__ == "__main__":
    unittest.main()
