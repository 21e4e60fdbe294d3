"""Point 7: machines, their states, and their steps."""

import unittest

from onlytell.books import Book
from onlytell.errors import BadLetter, BadMachine, BadState
from onlytell.machines import stepped
from onlytell.running import ran
from onlytell.showing import shown
from tests.helpers import ANY_VALUES, check_refused, lined, nested, same, three_keys
from tests.samples import (
    FLIP, SAMPLES, WRONG_LETTERS, WRONG_MACHINES, WRONG_STORES, all_kept, machines_of, memories_of,
)

KEPT = ("show", (("a", "row"), ("b", "deed"), ("m", "row")))


def walk(book, machine, state, row):
    """The tellings of a row and the state behind it, step by step."""
    tellings = []
    for letter in row:
        telling, state = stepped(book, machine, state, letter)
        tellings.append(telling)
    return tuple(tellings), state


class Steps(unittest.TestCase):
    def check_step(self, book, machine, state, letter, telling, behind):
        with self.subTest(machine=machine, state=state, letter=letter):
            result = stepped(book, machine, state, letter)
            self.assertTrue(same(result, (telling, behind)), result)

    def test_the_step_of_a_run(self):
        book = Book(FLIP)
        self.check_step(book, ("run",), ((0, 1), ()), ("flip", 0), (("add", "a", 1), ("add", "b", 1)), ((1, 0), ()))
        self.check_step(book, ("run",), ((0, 1), ()), ("look", 0), (), ((0, 1), ()))
        self.check_step(book, ("run",), ((1, 1), ()), ("look", 0), (("say", 1),), ((1, 1), ()))

    def test_the_step_of_a_show(self):
        book = Book(FLIP)
        told = (("add", "a", 1), ("add", "b", 1))
        for memory, left in (
            ((), ()), ((("a", "deed"),), ()), ((("a", "deed"), ("b", "row")), (("b", 1),)),
            ((("a", "row"), ("b", "row")), (("a", 1), ("b", 1))),
        ):
            self.check_step(book, ("show", memory), ((0, 0), ()), ("flip", 0), told, ((0, 0), left))

    def test_from_states_that_no_row_reaches(self):
        book = Book(FLIP)
        machine = ("show", all_kept(book))
        self.check_step(book, machine, ((0, 0), (("a", 1),)), ("look", 0), (), ((0, 0), (("a", 1),)))
        self.check_step(book, machine, ((0, 0), (("a", 1),)), ("flip", 0), (("add", "a", 1), ("add", "b", 1)),
                        ((0, 0), (("a", 0), ("b", 1))))
        self.check_step(book, machine, ((1, 0), (("b", 1),)), ("look", 0), (("say", 1),), ((1, 0), (("b", 1),)))
        gone = Book(lined("key a 2", "may m 2", "deed off 1", "  drop m", "deed look 1", "  say a", "  if has m",
                          "    say m"))
        machine = ("show", all_kept(gone))
        self.check_step(gone, machine, ((0, 1), (("m", -1),)), ("look", 0), (("say", 0),), ((0, 1), (("m", -1),)))
        self.check_step(gone, machine, ((0, 1), (("m", -1),)), ("off", 0), (("refused", ("off",), "lacks"),),
                        ((0, 1), (("m", -1),)))
        self.check_step(gone, machine, ((0, -1), (("a", 1), ("m", 0))), ("look", 0), (("say", 1), ("say", 0)),
                        ((0, -1), (("a", 1), ("m", 0))))
        self.check_step(gone, machine, ((0, -1), (("a", 1), ("m", 0))), ("off", 0), (("drop", "m"),),
                        ((0, -1), (("a", 1), ("m", -1))))

    def test_step_by_step_as_in_one_call(self):
        for book in SAMPLES:
            row = (book.letters + book.letters)[::-1]
            for store in book.stores:
                self.assertTrue(same(walk(book, ("run",), (store, ()), row),
                                     (ran(book, store, row)[0], (ran(book, store, row)[1], ()))))
                for memory in memories_of(book):
                    tellings, base, left = shown(book, store, memory, row)
                    self.assertTrue(same(walk(book, ("show", memory), (store, ()), row), (tellings, (base, left))))

    def test_a_show_from_a_state_goes_on_as_the_row_did(self):
        for book in SAMPLES:
            row = book.letters + book.letters[1:]
            for memory in memories_of(book):
                whole = shown(book, book.stores[-1], memory, row)
                for place in range(len(row) + 1):
                    tellings, base, left = shown(book, book.stores[-1], memory, row[:place])
                    further, state = walk(book, ("show", memory), (base, left), row[place:])
                    self.assertEqual((tellings + further,) + state, whole)

    def test_equal_calls_return_equal_results(self):
        for book in SAMPLES:
            other = Book(book.text)
            for machine in machines_of(book):
                for store in book.stores:
                    for letter in book.letters:
                        one = stepped(book, machine, (store, ()), letter)
                        self.assertTrue(same(one, stepped(other, machine, (store, ()), letter)))

    def test_by_the_names_of_the_arguments(self):
        self.assertEqual(stepped(letter=("look", 0), state=((0, 0), ()), machine=("run",), book=Book(FLIP)),
                         ((("say", 1),), ((0, 0), ())))


class Arguments(unittest.TestCase):
    def check_state(self, machine, value):
        with self.subTest(machine=machine, value=value):
            check_refused(self, BadState, value, stepped, three_keys(), machine, value, ("put", 0))

    def test_bad_machines(self):
        for value in WRONG_MACHINES:
            with self.subTest(value=value):
                check_refused(self, BadMachine, value, stepped, three_keys(), value, ((0, 0, 0), ()), ("put", 0))

    def test_right_machines_and_states(self):
        book = three_keys()
        for machine in machines_of(book):
            self.assertEqual(stepped(book, machine, ((1, -1, 2), ()), ("put", 0)), ((), ((1, -1, 2), ())))
        for left in ((), (("a", 1),), (("m", -1),), (("m", 2),), (("a", 0), ("m", 0))):
            self.assertTrue(same(stepped(book, KEPT, ((1, -1, 2), left), ("put", 0)), ((), ((1, -1, 2), left))))

    def test_states_of_other_kinds(self):
        for machine in (("run",), ("show", ()), KEPT):
            for value in ANY_VALUES + (
                (0, 0, 0), ((0, 0, 0),), ((0, 0, 0), (), ()), [(0, 0, 0), ()], ((), (0, 0, 0)), {(0, 0, 0): ()},
                ((0, 0, 0), []), ((0, 0, 0), None), ((0, 0, 0), {}), ((0, 0, 0), ""), ((0, 0, 0), 0), nested(30),
            ):
                self.check_state(machine, value)

    def test_states_without_a_store(self):
        for machine in (("run",), ("show", ()), KEPT):
            for value in WRONG_STORES:
                self.check_state(machine, (value, ()))

    def test_what_a_run_cannot_remember(self):
        for left in ((("a", 0),), (("m", -1),), ((),), ("a",)):
            self.check_state(("run",), ((0, 0, 0), left))
            self.check_state(("show", ()), ((0, 0, 0), left))
            self.check_state(("show", (("a", "deed"), ("m", "deed"))), ((0, 0, 0), left))

    def test_what_a_show_cannot_remember(self):
        for left in (
            (("b", 0),), (("c", 0),), (("put", 0),), (("a", 0), ("b", 0)), (("", 0),), ((None, 0),), ((0, "a"),),
            (("a", -1),), (("a", 2),), (("a", 3),), (("m", 3),), (("m", -2),), (("a", True),), (("m", False),),
            (("a", None),), (("a", "0"),), (("a", (0,)),), (("a", [0]),), (("a",),), (("a", 0, 0),), ("a", 0),
            (("m", 0), ("a", 0)), (("a", 0), ("a", 0)), (("a", 0), ("a", 1)), (("m", -1), ("m", 0)),
            (("a", 0), ("m", 0), ("m", 0)), [("a", 0)], (["a", 0],), (("a", 0), None), {"a": 0}, {("a", 0): 1},
            (("a", "row"),), (("a", 0, "row"),), ((("a", 0),),), ((["a"], 0),), nested(30),
        ):
            self.check_state(KEPT, ((0, 0, 0), left))

    def test_bad_letters(self):
        for machine in (("run",), KEPT):
            for value in WRONG_LETTERS:
                check_refused(self, BadLetter, value, stepped, three_keys(), machine, ((0, 0, 0), ()), value)

    def test_the_sequence_of_the_errors(self):
        book = three_keys()
        check_refused(self, BadMachine, ("go",), stepped, book, ("go",), ((0,), ()), ("put",))
        check_refused(self, BadState, ((0,), ()), stepped, book, ("run",), ((0,), ()), ("put",))
        check_refused(self, BadLetter, ("put",), stepped, book, ("run",), ((0, 0, 0), ()), ("put",))


if __name__ == "__main__":
    unittest.main()
