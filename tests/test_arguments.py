"""Point 2 for all functions and classes: wrong arguments, two of them at once, and arguments by their names."""

import copy
import unittest
from itertools import combinations

from onlytell import errors
from onlytell.apart import apart, classes, shows_apart
from onlytell.beside import beside, is_true, parted, shows_beside
from onlytell.books import Book
from onlytell.choosing import cheapest, shows_cheapest
from onlytell.desk import Desk
from onlytell.hands import checks, in_turn, played, shows_checks, shows_in_turn
from onlytell.harm import harm, shows_harm
from onlytell.looks import enough, first_unlike, looks
from onlytell.machines import stepped
from onlytell.running import ran
from onlytell.sequences import sequences
from onlytell.shop import Shop
from onlytell.showing import shown
from onlytell.spoiling import bars, shows_bars, shows_spoils, spoils
from onlytell.stamps import hangs, reads, shows_hangs, shows_stamps, stamps
from onlytell.stores import Store
from onlytell.tellings import Telling
from onlytell.wishes import agree, leads, shows_agree, shows_leads
from tests.helpers import check_refused, lined, nested, same
from tests.test_interface import FUNCTIONS, SEQUENCE

TEXT = lined("key a 2", "may m 3", "deed put 2", "  set a it", "deed sly 1 blind", "  set m a", "deed look 1",
             "  say a")
LETTERS = (("look", 0), ("put", 1))
ROW = (("put", 1), ("look", 0))
HAND_ROWS = ((("put", 1),), (("look", 0),))
HANDS = ((HAND_ROWS[0], ()), (HAND_ROWS[1], ("a",)))

# For each kind of argument: a right value, and wrong ones with the error and the value that it keeps.
KINDS = {
    "store": ((0, -1), (((0, 3), "BadStore", None), ((True, 0), "BadStore", None), ([0, 0], "BadStore", None))),
    "row": (ROW, ((None, "BadRow", -1), (ROW + (("put", 2),), "BadRow", 2), ((["put", 0],), "BadRow", 0))),
    "memory": ((("a", "row"),), (((("c", "row"),), "BadMemory", None), ([("a", "row")], "BadMemory", None))),
    "machine": (("show", (("a", "row"),)), ((("run", ()), "BadMachine", None), (("show", [()]), "BadMachine", None))),
    "state": (((0, -1), (("a", 1),)), ((((0, 0), (("m", 0),)), "BadState", None),
                                       (((0, 0), [("a", 1)]), "BadState", None))),
    "letter": (("put", 1), ((("put", True), "BadLetter", None), (("no", 0), "BadLetter", None))),
    "offers": (((("keep", "a", "row"), 1),), ((((("keep", "a", "row"), 0),), "BadOffers", None),
                                              ((), "BadOffers", None))),
    "wish": ("true", (("maybe", "BadWish", None), (None, "BadWish", None))),
    "letters": (LETTERS, ((LETTERS[::-1], "BadLetters", None), (list(LETTERS), "BadLetters", None))),
    "prices": ((1, 2), (((1, True), "BadPrices", None), ((1,), "BadPrices", None), ([1, 2], "BadPrices", None))),
    "prices of letters": ((1, 2, 3, 4), (((1, 2, 3, 10), "BadPrices", None), ((1, 2, 3), "BadPrices", None))),
    "rows": ((ROW, ()), (((), "BadRows", None), ((ROW, None), "BadRows", None), ([ROW], "BadRows", None))),
    "wishes": ((("a", 1),), (((("a", 2),), "BadWishes", None), ((("m", 0), ("a", 0)), "BadWishes", None))),
    "keys": (("a",), ((("m", "a"), "BadKeys", None), (["a"], "BadKeys", None))),
    "hands": (HANDS, (((), "BadHands", None), ((((), ()),), "BadHands", None))),
    "steps": ((("look", 1),), (((("look", 1), ("put", 0)), "BadSteps", 1), (None, "BadSteps", -1))),
    "rows of hands": (HAND_ROWS, (((), "BadRows", None), (((),), "BadRows", None), ((ROW * 2,), "BadRows", None))),
    "checks": ((((0, "a"), 1),), (((((2, "a"), 1),), "BadOffers", None), ((((0, "a"), 0),), "BadOffers", None))),
    "value": (("no such answer", ((),)), ()),
    "text": (TEXT, ((None, "BadBook", 0), (TEXT + "\n", "BadBook", 9), (TEXT.replace("say a", "say b"), "Unnamed", 8))),
    "effects": ((("say", 1),), (((("say", True),), "BadTelling", None), ([], "BadTelling", None))),
}
BOOK_AND = {
    ran: "store row", shown: "store memory row", stepped: "machine state letter", is_true: "memory", parted: "memory",
    harm: "memory", shows_harm: "memory value", cheapest: "offers *wish", shows_cheapest: "offers value *wish",
    looks: "machine state letter", first_unlike: "memory store row", enough: "", spoils: "store row letters",
    shows_spoils: "store row letters value", bars: "store row letters prices",
    shows_bars: "store row letters prices value",
    hangs: "row", shows_hangs: "row value", reads: "store row", stamps: "store row prices",
    shows_stamps: "store row prices value", sequences: "store rows", apart: "machine store other=store",
    shows_apart: "machine store other=store value", classes: "machine",
    leads: "machine store wish=wishes prices=prices_of_letters", agree: "memory keys", shows_agree: "memory keys value",
    shows_leads: "machine store wish=wishes prices=prices_of_letters value", played: "store hands steps",
    in_turn: "hands",
    shows_in_turn: "hands value", checks: "rows=rows_of_hands offers=checks",
    shows_checks: "rows=rows_of_hands offers=checks value", Store: "worths=store", Telling: "effects",
    Shop: "worths=store *memory",
}


def parameters_of(words):
    """(name, kind, whether it is passed by name alone) of each parameter behind the book."""
    for word in words.split():
        name, _, kind = word.lstrip("*").partition("=")
        yield name, (kind or name).replace("_", " "), word.startswith("*")


def calls():
    """(call, its parameters ahead of which a book stands or None)."""
    for call, words in BOOK_AND.items():
        yield call, list(parameters_of(words)), {"book": Book(TEXT)}
    yield Desk, list(parameters_of("text worths=store *memory")), {}
    for call, words in ((beside, ""), (shows_beside, " value")):
        parameters = list(parameters_of("one=machine other=machine" + words))
        yield call, parameters, {"book": Book(TEXT), "newer": Book(TEXT)}


def result_of(call, arguments):
    """What the call returns, as it can be compared."""
    found = call(**arguments)
    if isinstance(found, Store):
        return found.worths
    if isinstance(found, Telling):
        return found.effects
    if isinstance(found, Desk):
        found = found.shop
    if isinstance(found, Shop):
        return found.book.text, found.memory, found.worths, found.left, found.is_showing, found.done
    return found


class Names(unittest.TestCase):
    def test_all_functions_stand_here(self):
        names = {call.__name__ for call, _, _ in calls()} - {"Store", "Telling", "Shop", "Desk"}
        self.assertEqual(names, {name for functions in FUNCTIONS.values() for name in functions})
        self.assertIn("desk", SEQUENCE)

    def test_by_names_in_another_sequence_and_by_position(self):
        for call, parameters, books in calls():
            arguments = {**books, **{name: KINDS[kind][0] for name, kind, _ in parameters}}
            before = copy.deepcopy({name: value for name, value in arguments.items() if name not in books})
            result = result_of(call, arguments)
            backward = dict(reversed(list(arguments.items())))
            with self.subTest(call=call.__name__):
                self.assertTrue(same(result_of(call, backward), result))
                by_name = {name: arguments[name] for name, _, alone in parameters if alone}
                order = list(books) + [name for name, _, alone in parameters if not alone]
                if "newer" in books:
                    order = ["book", "one", "newer", "other"] + order[4:]
                by_position = call(*[arguments[name] for name in order], **by_name)
                self.assertTrue(same(result_of(lambda: by_position, {}), result))
                self.assertTrue(same({name: arguments[name] for name in before}, before))

    def test_equal_calls_return_equal_results(self):
        for call, parameters, books in calls():
            arguments = {**books, **{name: KINDS[kind][0] for name, kind, _ in parameters}}
            others = {**{name: Book(book.text) for name, book in books.items()},
                      **{name: copy.deepcopy(KINDS[kind][0]) for name, kind, _ in parameters}}
            with self.subTest(call=call.__name__):
                self.assertTrue(same(result_of(call, others), result_of(call, arguments)))


class Wrong(unittest.TestCase):
    def check_wrong(self, call, arguments, wrong):
        """That the first wrong argument decides which error is raised, and what it keeps."""
        value, error, kept = wrong
        kept = value if kept is None else kept
        check_refused(self, getattr(errors, error), kept, lambda *_: call(**arguments), *[
            argument for argument in arguments.values() if isinstance(argument, (list, tuple))])

    def test_each_argument_wrong(self):
        many = 0
        for call, parameters, books in calls():
            right = {**books, **{name: KINDS[kind][0] for name, kind, _ in parameters}}
            for name, kind, _ in parameters:
                for wrong in KINDS[kind][1]:
                    with self.subTest(call=call.__name__, name=name, wrong=wrong):
                        self.check_wrong(call, {**right, name: wrong[0]}, wrong)
                        many += 1
        self.assertGreater(many, 150)

    def test_two_arguments_wrong_at_once(self):
        many = 0
        for call, parameters, books in calls():
            right = {**books, **{name: KINDS[kind][0] for name, kind, _ in parameters}}
            # Whatever is passed by name alone stands behind the others, as `wish` of shows_cheapest does behind value.
            for (name, kind, _), (later, later_kind, _) in combinations(parameters, 2):
                for wrong in KINDS[kind][1]:
                    for other in KINDS[later_kind][1]:
                        with self.subTest(call=call.__name__, names=(name, later), wrong=wrong):
                            self.check_wrong(call, {**right, name: wrong[0], later: other[0]}, wrong)
                            many += 1
        self.assertGreater(many, 200)

    def test_all_arguments_wrong_at_once(self):
        for call, parameters, books in calls():
            # No value is wrong for the argument `value`.
            arguments = {name: KINDS[kind][1][0][0] if KINDS[kind][1] else nested(30) for name, kind, _ in parameters}
            if parameters:
                with self.subTest(call=call.__name__):
                    self.check_wrong(call, {**books, **arguments}, KINDS[parameters[0][1]][1][0])


class Passed(unittest.TestCase):
    """What a function returned may be passed in again, whatever its size."""

    def test_what_is_returned_is_shown(self):
        book = Book(TEXT)
        pairs = {beside: shows_beside, harm: shows_harm, cheapest: shows_cheapest, spoils: shows_spoils,
                 bars: shows_bars,
                 hangs: shows_hangs, stamps: shows_stamps, apart: shows_apart, leads: shows_leads, agree: shows_agree,
                 in_turn: shows_in_turn, checks: shows_checks}
        found = {call: ({name: KINDS[kind][0] for name, kind, _ in parameters}, books) for call, parameters,
                 books in calls()}
        for call, shows in pairs.items():
            arguments, books = found[call]
            value = call(**arguments, **books)
            self.assertIs(shows(**arguments, **books, value=value), True, call.__name__)
            self.assertIs(shows(**arguments, **books, value=copy.deepcopy(value)), True, call.__name__)
            for other in pairs:
                if other is not call:
                    foreign = other(**found[other][0], **found[other][1])
                    if not same(foreign, value):
                        self.assertIs(type(shows(**arguments, **books, value=foreign)), bool)
        self.assertEqual(book, Book(TEXT))


if __name__ == "__main__":
    unittest.main()
