"""Point 15: which stores a row can tell apart."""

import unittest
from itertools import combinations

from onlytell.apart import apart, classes, shows_apart
from onlytell.books import Book
from onlytell.errors import BadMachine, BadStore, TooMany
from tests.helpers import ANY_VALUES, check_refused, lined, nested, same, three_keys
from tests.oracles import changed, explored, parting, seeks
from tests.samples import (
    FLIP, PAIR, SAMPLES, SLY, WIDE_1500, WIDE_1501, WRONG_MACHINES, WRONG_STORES, all_kept, is_letters, machines_of,
    memories_of,
)
from tests.test_searching import BOOK_1500, BOOK_1501

RUN = ("run",)
LOOK = ("look", 0)

# Only behind three letters a worth of b is told, if a was 0 at first.
FAR = lined("key a 3", "key b 2", "deed grow 1", "  add a 1", "deed look 1", "  if a = 2", "    say b", "  else",
            "    say 7")


def first(store, other):
    return (store, ()), (other, ())


def of_kinds(book):
    """A run, and shows with each kind of memory."""
    names = sorted(row[0] for row in book.key_rows)
    yield from (RUN, ("show", ()), ("show", all_kept(book)), ("show", tuple((name, "deed") for name in names)),
                ("show", ((names[0], "row"),)), ("show", ((names[0], "deed"),) + tuple(
                    (name, "row") for name in names[1:])))


class Apart(unittest.TestCase):
    def check_apart(self, book, machine, store, other):
        """That the answer is one that `stepped` gives, and that it is shown; returns its word, or a length."""
        answer = apart(book, machine, store, other)
        step = parting(book, machine, book, machine)
        length, table = explored([first(store, other)], book.letters, step)
        with self.subTest(book=book.text, machine=machine, store=store, other=other):
            if table is not None:
                self.assertTrue(same(answer, ("never", table)), answer)
            else:
                self.assertEqual((answer[0], len(answer[1])), ("row", length))
                self.assertTrue(is_letters(book, answer[1]))
                self.assertEqual(seeks(first(store, other), answer[1], step), [False] * (length - 1) + [True])
            self.assertIs(shows_apart(book, machine, store, other, answer), True)
            self.assertTrue(same(apart(Book(book.text), machine, store, other), answer))
        return "never" if table is not None else length

    def test_each_book(self):
        words = []
        for book in SAMPLES + (Book(FAR),):
            for machine in of_kinds(book):
                for store in book.stores[::2]:
                    for other in book.stores[::5]:
                        words.append(self.check_apart(book, machine, store, other))
        self.assertGreater(min(words.count("never"), words.count(1), words.count(2)), 5)

    def test_the_same_store_twice(self):
        for book in SAMPLES:
            for machine in of_kinds(book):
                for store in book.stores[::3]:
                    word, table = apart(book, machine, store, store)
                    self.assertEqual(word, "never")
                    self.assertIn(first(store, store), table)
                    self.assertTrue(all(one == other for one, other in table))

    def test_a_shortest_row(self):
        book = Book(FAR)
        grow = ("grow", 0)
        self.assertEqual(apart(book, RUN, (2, 0), (2, 1)), ("row", (LOOK,)))
        self.assertEqual(apart(book, RUN, (1, 0), (1, 1)), ("row", (grow, LOOK)))
        self.assertEqual(apart(book, RUN, (0, 0), (0, 1)), ("row", (grow, grow, LOOK)))
        self.assertEqual(apart(book, RUN, (0, 0), (2, 0)), ("row", (LOOK,)))
        # A show that forgets a never comes to tell b.
        self.assertEqual(apart(book, ("show", ()), (0, 0), (0, 1)), ("never", (first((0, 0), (0, 1)),)))
        self.assertEqual(apart(book, ("show", (("a", "deed"),)), (0, 0), (0, 1))[0], "never")
        self.assertEqual(apart(book, ("show", (("a", "row"),)), (0, 0), (0, 1)), ("row", (grow, grow, LOOK)))

    def test_letters_that_must_come_in_their_sequence(self):
        book = Book(lined("key a 3", "key b 2", "deed two 1", "  if a = 1", "    add a 1", "deed one 1", "  if a = 0",
                          "    set a 1", "deed look 1", "  if a = 2", "    say b"))
        row = (("one", 0), ("two", 0), LOOK)
        for machine in (RUN, ("show", all_kept(book))):
            self.assertEqual(apart(book, machine, (0, 0), (0, 1)), ("row", row))

    def test_the_table_has_the_state_of_store_ahead(self):
        book = Book(FLIP)
        self.assertTrue(same(apart(book, RUN, (0, 0), (1, 1)), ("never", (
            first((0, 0), (1, 1)), first((1, 1), (0, 0))))))
        book = Book(lined("key a 2", "key b 2", "deed put 1", "  set a 1", "deed look 1", "  say a"))
        for store, other in (((0, 0), (0, 1)), ((0, 1), (0, 0))):
            self.assertTrue(same(apart(book, RUN, store, other), ("never", (
                first(store, other), first((1, store[1]), (1, other[1]))))))
        machine = ("show", (("a", "row"),))
        self.assertTrue(same(apart(book, machine, (0, 1), (0, 0)), ("never", (
            (((0, 1), ()), ((0, 0), ())), (((0, 1), (("a", 1),)), ((0, 0), (("a", 1),)))))))

    def test_blind_deeds_change_what_a_show_tells_later(self):
        book = Book(FAR.replace("deed grow 1", "deed grow 1 blind"))
        row = ("row", (("grow", 0), ("grow", 0), LOOK))
        self.assertEqual(apart(book, ("show", ()), (0, 0), (0, 1)), row)
        self.assertEqual(apart(book.taught(("grow",)), ("show", ()), (0, 0), (0, 1))[0], "never")
        self.assertEqual(apart(book.taught(("grow",)), ("show", (("a", "row"),)), (0, 0), (0, 1)), row)

    def test_by_the_names_of_the_arguments(self):
        book = Book(FLIP)
        answer = apart(other=(0, 1), store=(0, 0), machine=RUN, book=book)
        self.assertIs(shows_apart(value=answer, other=(0, 1), store=(0, 0), machine=RUN, book=book), True)

    def test_errors_in_their_sequence(self):
        book = three_keys()
        for call, more in ((apart, ()), (shows_apart, (None,))):
            for value in WRONG_MACHINES:
                check_refused(self, BadMachine, value, call, book, value, None, None, *more)
            for value in WRONG_STORES:
                check_refused(self, BadStore, value, call, book, RUN, value, [0], *more)
                check_refused(self, BadStore, value, call, book, ("show", ()), (0, 0, 0), value, *more)


class ShownApart(unittest.TestCase):
    CASES = (
        (FLIP, RUN, (0, 0), (1, 1)), (FLIP, RUN, (0, 0), (0, 1)), (FAR, RUN, (0, 0), (0, 1)),
        (FAR, RUN, (1, 1), (1, 1)),
        (PAIR, ("show", ()), (0, 0), (1, 0)), (PAIR, ("show", (("a", "row"), ("b", "row"))), (0, 0), (1, 0)),
        (SLY, ("show", (("a", "row"),)), (0,), (1,)),
    )

    def check_shown(self, expected, case, value):
        text, machine, store, other = case
        self.assertIs(shows_apart(Book(text), machine, store, other, value), expected, (case, value))

    def is_right_row(self, book, machine, store, other, value):
        if type(value) is not tuple or len(value) != 2 or not same(value[0], "row") or not is_letters(book, value[1]):
            return False
        found = seeks(first(store, other), value[1], parting(book, machine, book, machine))
        return len(found) > 0 and found[-1] and not any(found[:-1])

    def test_each_change_of_an_answer(self):
        for case in self.CASES:
            book = Book(case[0])
            answer = apart(book, *case[1:])
            for value in changed(answer):
                right = same(value, answer) or self.is_right_row(book, *case[1:], value)
                self.check_shown(right, case, value)

    def test_any_table_of_pairs(self):
        book = Book(PAIR)
        pairs = [first(store, other) for store in book.stores for other in book.stores]
        step = parting(book, RUN, book, RUN)
        many = 0
        for store, other in (((0, 0), (1, 0)), ((1, 1), (1, 1)), ((0, 1), (1, 1))):
            for size in range(1, 4):
                for table in combinations(pairs, size):
                    steps = [step(pair, letter) for pair in table for letter in book.letters]
                    right = first(store, other) in table and not any(
                        is_sought or later not in table for is_sought, later in steps)
                    self.check_shown(right, (PAIR, RUN, store, other), ("never", table))
                    many += right
        self.assertGreater(many, 20)

    def test_greater_closed_tables_and_tables_that_lack_the_first_pair(self):
        case = (FLIP, RUN, (0, 0), (1, 1))
        one, other = first((0, 0), (1, 1)), first((1, 1), (0, 0))
        own = tuple(first(store, store) for store in Book(FLIP).stores)
        self.check_shown(True, case, ("never", (one, other)))
        self.check_shown(True, case, ("never", tuple(sorted((one, other) + own))))
        self.check_shown(True, case, ("never", tuple(sorted((one, other, own[0], own[3])))))
        self.check_shown(False, case, ("never", tuple(sorted((one, other, own[0])))))
        self.check_shown(False, case, ("never", own))
        self.check_shown(False, case, ("never", (one,)))
        self.check_shown(False, case, ("never", (other,)))
        self.check_shown(False, case, ("never", ()))
        self.check_shown(False, case, ("never", (other, one)))
        self.check_shown(False, case, ("never", (one, one, other)))
        # Here the pair the other way about is not reached, and does not serve.
        case = (PAIR, RUN, (0, 1), (1, 1))
        self.check_shown(True, case, ("never", (first((0, 1), (1, 1)), first((1, 1), (1, 1)))))
        self.check_shown(False, case, ("never", (first((1, 1), (0, 1)), first((1, 1), (1, 1)))))

    def test_states_of_the_machine_only(self):
        book, machine = Book(PAIR), ("show", (("a", "row"),))
        answer = apart(book, machine, (0, 0), (0, 0))
        states = [((0, 0), ()), ((0, 0), (("a", 1),))]
        self.assertTrue(same(answer, ("never", tuple((state, state) for state in states))))
        for memory in memories_of(book):
            case = (PAIR, ("show", memory), (0, 0), (0, 0))
            self.check_shown(("a", "row") in memory and ("b", "row") not in memory, case, answer)
        self.check_shown(False, (PAIR, RUN, (0, 0), (0, 0)), answer)
        # A state that no row leads to may be in a greater table.
        kept = ((0, 0), (("a", 0),))
        greater = tuple(sorted(answer[1] + ((kept, kept), (kept, states[1]))))
        self.check_shown(True, (PAIR, machine, (0, 0), (0, 0)), ("never", greater))
        wrong = ((0, 0), (("b", 0),))
        self.check_shown(False, (PAIR, machine, (0, 0), (0, 0)),
                         ("never", tuple(sorted(answer[1] + ((wrong, wrong),)))))

    def test_rows_that_part_ahead_of_their_last_letter(self):
        grow = ("grow", 0)
        case = (FAR, RUN, (1, 0), (1, 1))
        for row, right in (
            ((grow, LOOK), True), ((LOOK, grow, LOOK), True), ((grow, LOOK, LOOK), False), ((grow, LOOK, grow), False),
            ((grow,), False), ((LOOK,), False), ((), False), ((grow,) * 4 + (LOOK,), True),
            ((grow,) * 5 + (LOOK,), False),
            ((grow, LOOK) + (grow,) * 3 + (LOOK,), False), ([grow, LOOK], False), ((grow, ["look", 0]), False),
            ((grow, ("look", False)), False), ((("grow", False), LOOK), False), ((grow, ("look", 1)), False),
            ((grow, "look"), False), (None, False), ((grow, LOOK, None), False), ((LOOK,) * 60 + (grow, LOOK), True),
        ):
            self.check_shown(right, case, ("row", row))
            self.check_shown(False, case, ("never", row))
            self.check_shown(False, case, ("parts", row))
            self.check_shown(False, case, ("row", (1, 0), row))

    def test_values_of_other_kinds(self):
        for case in self.CASES:
            for value in ANY_VALUES + (
                "never", "row", ("never",), ("row",), ("never", ()), ("row", ()), ("never", None), ("row", None),
                ("never", (), ()), ("alike", ()), (True, ()), (None, ()), (["row"], (LOOK,)), ("never", {}),
                ("row", {}),
                ("never", ((),)), ("never", (None,)), ("never", nested(30)), ("row", nested(30)), nested(30),
                ("never", (((), ()),)), ("never", ((0, 0), (1, 1))), ("ROW", (LOOK,)),
            ):
                self.check_shown(False, case, value)


class Classes(unittest.TestCase):
    def check_classes(self, book, machine):
        answer = classes(book, machine)
        step = parting(book, machine, book, machine)
        expected = {}
        for store in book.stores:
            for elder in list(expected):
                if explored([first(elder, store)], book.letters, step)[0] is None:
                    expected[elder].append(store)
                    break
            else:
                expected[store] = [store]
        with self.subTest(book=book.text, machine=machine):
            self.assertTrue(same(answer, tuple(sorted(tuple(group) for group in expected.values()))), answer)
            self.assertTrue(same(classes(Book(book.text), machine), answer))
        return answer

    def test_each_book(self):
        many = [len(self.check_classes(book, machine)) for book in SAMPLES[:5] + (Book(FAR),
                                                                                  ) for machine in machines_of(book)]
        for book in SAMPLES[5:]:
            many += [len(self.check_classes(book, machine)) for machine in of_kinds(book)]
        self.assertGreater(min(many.count(1) + many.count(2), many.count(4), len(many) - many.count(4)), 5)

    def test_a_machine_that_tells_all_stores_apart(self):
        book = Book(lined("key a 3", "may m 2", "deed look 1", "  say a", "  if has m", "    say m"))
        for machine in machines_of(book):
            self.assertTrue(same(classes(book, machine), tuple((store,) for store in book.stores)))

    def test_a_machine_that_tells_none_apart(self):
        book = Book(lined("key a 3", "may m 2", "deed put 1", "  set a 1", "  set m 0", "  say a"))
        for machine in (RUN, ("show", all_kept(book))):
            self.assertTrue(same(classes(book, machine), (book.stores,)))
        # A show that forgets at once what was put says the a of its base.
        self.assertTrue(same(classes(book, ("show", ())), tuple(
            tuple(store for store in book.stores if store[0] == worth) for worth in range(3))))

    def test_stores_that_only_a_long_row_tells_apart(self):
        book = Book(lined("key a 3", "key b 3", "key c 2", "deed grow 1", "  if a = 2", "    set a 0", "    add b 1",
                          "  else", "    add a 1", "deed look 1", "  if a + b = 4", "    say c"))
        self.assertEqual(len(apart(book, RUN, (0, 0, 0), (0, 0, 1))[1]), 9)
        self.assertEqual(classes(book, RUN), tuple((store,) for store in book.stores))
        self.assertEqual(apart(book, RUN, (0, 0, 0), (0, 1, 0))[0], "row")

    def test_ascending_within_a_class_and_of_the_classes(self):
        book = Book(FLIP)
        self.assertTrue(same(classes(book, RUN), (((0, 0), (1, 1)), ((0, 1), (1, 0)))))
        book = Book(lined("key a 3", "key b 2", "deed look 1", "  if a = 1", "    say b"))
        zeros = ((0, 0), (0, 1), (2, 0), (2, 1))
        self.assertTrue(same(classes(book, RUN), (zeros, ((1, 0),), ((1, 1),))))
        book = Book(lined("may a 3", "deed look 1", "  if has a", "    if a = 0", "      say 1"))
        self.assertTrue(same(classes(book, RUN), (((-1,), (1,), (2,)), ((0,),))))

    def test_what_is_remembered_decides_what_later_letters_tell(self):
        book = Book(FAR)
        alone = tuple((store,) for store in book.stores)
        forgetful = (((0, 0), (0, 1), (1, 0), (1, 1)), ((2, 0),), ((2, 1),))
        for machine, expected in ((RUN, alone), (("show", (("a", "row"),)), alone), (("show", all_kept(book)), alone),
                                  (("show", ()), forgetful), (("show", (("a", "deed"),)), forgetful),
                                  (("show", (("b", "row"),)), forgetful)):
            self.assertTrue(same(classes(book, machine), expected))

    def test_by_the_names_of_the_arguments(self):
        self.assertEqual(len(classes(machine=("show", ()), book=Book(PAIR))), 4)

    def test_bad_machines(self):
        for value in WRONG_MACHINES:
            check_refused(self, BadMachine, value, classes, three_keys(), value)


class ManyStates(unittest.TestCase):
    def test_both_sides_of_1500_pairs(self):
        for (book, store), many in ((WIDE_1500, 1500), (WIDE_1501, 1501)):
            machine = ("show", all_kept(book))
            table = explored([first(store, store)], book.letters, parting(book, machine, book, machine))[1]
            self.assertEqual(len(table), many)
            if many == 1500:
                self.assertTrue(same(apart(book, machine, store, store), ("never", table)))
            else:
                check_refused(self, TooMany, 1500, apart, book, machine, store, store)
            self.assertIs(shows_apart(book, machine, store, store, ("never", table)), True)
            self.assertIs(shows_apart(book, machine, store, store, ("never", table[1:])), False)

    def test_a_row_that_comes_ahead_of_too_many_pairs(self):
        book, store = WIDE_1501
        machine = ("show", all_kept(book))
        for other in book.stores:
            if other[0] != store[0]:
                # What p does depends on a.
                self.assertEqual(len(apart(book, machine, store, other)[1]), 1)

    def test_a_row_of_seven_letters_and_none(self):
        # The pairs that are reached differ in d alone, which is told once a, b and c have come to be 2.
        book = Book(lined("key a 3", "key b 3", "key c 3", "key d 2", "deed x 1", "  add a 1", "deed y 1", "  add b 1",
                          "deed z 1", "  if a + b = 4", "    if c = 2", "      say d", "deed w 1", "  add c 1"))
        for memory, length in (((("a", "row"), ("b", "row"), ("c", "row")), 7), ((("a", "row"), ("b", "row")), None)):
            machine = ("show", memory)
            step = parting(book, machine, book, machine)
            self.assertEqual(explored([first((0, 0, 0, 0), (0, 0, 0, 1))], book.letters, step)[0], length)
            answer = apart(book, machine, (0, 0, 0, 0), (0, 0, 0, 1))
            self.assertEqual(len(answer[1]) if length else answer[0], length or "never")

    def test_both_sides_of_1500_states_for_classes(self):
        memory = all_kept(BOOK_1500)
        found = classes(BOOK_1500, ("show", memory))
        self.assertTrue(same(tuple(sorted(store for group in found for store in group)), BOOK_1500.stores))
        for group in found:
            for one, other in combinations(group[:3], 2):
                self.assertEqual(apart(BOOK_1500, ("show", memory), one, other)[0], "never")
        for one, other in combinations([group[0] for group in found][:8], 2):
            self.assertEqual(apart(BOOK_1500, ("show", memory), one, other)[0], "row")
        check_refused(self, TooMany, 1500, classes, BOOK_1501, ("show", memory))
        # The states of these two machines are fewer.
        self.assertEqual(sum(len(group) for group in classes(BOOK_1501, ("show", ()))), 54)
        self.assertEqual(sum(len(group) for group in classes(BOOK_1501, RUN)), 54)

    def test_classes_that_the_first_letters_part_need_all_states_too(self):
        book = Book(BOOK_1501.text.replace("  if c = a\n", "  say a\n  say b\n  say c\n  say d\n  if c = a\n"))
        self.assertEqual(len(classes(book, ("run",))), len(book.stores))
        check_refused(self, TooMany, 1500, classes, book, ("show", all_kept(book)))


if __name__ == "__main__":
    unittest.main()
