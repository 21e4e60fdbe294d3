"""Hands worked out anew, from `ran`, Store and Telling alone, and values that are no hands, steps, rows or offers."""

from itertools import permutations

from onlytell.errors import Stuck
from onlytell.running import ran
from onlytell.stores import Store
from onlytell.tellings import Telling
from tests.helpers import ANY_VALUES, nested, same
from tests.samples import WRONG_KEYS, WRONG_ROWS, is_one_of

NEW = ("new",)


def worths_of(book, store, keys):
    places = {row[0]: place for place, row in enumerate(book.key_rows)}
    return tuple(store[places[key]] for key in keys)


def after(book, hands, state, step):
    """The (store, marks) behind a step, or None if it cannot come."""
    store, marks = state
    word, number = step
    row, keys = hands[number]
    mark = marks[number]
    if word == "look":
        if mark[0] == "done":
            return None
        later = ("looked", ran(book, store, row)[0], worths_of(book, store, keys))
    elif mark[0] != "looked":
        return None
    else:
        later = NEW
        if worths_of(book, store, keys) == mark[2]:
            kept = Store(book, store)
            try:
                kept |= Telling(book, sum(mark[1], ()))
                later, store = ("done", mark[1]), kept.worths
            except Stuck:
                pass
    return store, marks[:number] + (later,) + marks[number + 1:]


def all_steps(hands):
    return [(word, number) for word in ("look", "put") for number in range(len(hands))]


def start(hands, store):
    return store, (NEW,) * len(hands)


def are_done(marks):
    return all(mark[0] == "done" for mark in marks)


def acted_in_turn(book, hands, first, store, marks):
    for numbers in permutations(range(len(hands))):
        now, told = first, {}
        for number in numbers:
            told[number], now = ran(book, now, hands[number][0])
        if now == store and all(told[number] == marks[number][1] for number in numbers):
            return True
    return False


def is_mixed(book, hands, first, state):
    return are_done(state[1]) and not acted_in_turn(book, hands, first, *state)


def reached(book, hands, store):
    """All (store, marks) from this first store, each with how many steps lead there at least."""
    found = {start(hands, store): 0}
    level = list(found)
    while level:
        further = []
        for state in level:
            for step in all_steps(hands):
                later = after(book, hands, state, step)
                if later is not None and later not in found:
                    found[later] = found[state] + 1
                    further.append(later)
        level = further
    return found


def fewest(book, hands, store):
    """How many steps mix the hands at least; None if none do."""
    lengths = [length for state, length in reached(book, hands, store).items() if is_mixed(book, hands, store, state)]
    return min(lengths) if lengths else None


def behind(book, hands, store, steps):
    """The (store, marks) behind these steps; None if one of them is no step, or cannot come."""
    state = start(hands, store)
    if type(steps) is not tuple:
        return None
    for step in steps:
        if not is_one_of(all_steps(hands), step):
            return None
        state = after(book, hands, state, step)
        if state is None:
            return None
    return state


def is_right_mixed(book, hands, value):
    """Whether the value is a right answer with "mixed", as the document says it."""
    if type(value) is not tuple or len(value) != 3 or not same(value[0], "mixed") or not is_one_of(book.stores,
                                                                                                   value[1]):
        return False
    state = behind(book, hands, value[1], value[2])
    return state is not None and is_mixed(book, hands, value[1], state)


# None of these is a tuple of hands for the book of helpers.three_keys.
RIGHT_ROW = (("put", 0),)
WRONG_HAND_ROWS = tuple(value for value, _ in WRONG_ROWS) + ((), (("put", 0),) * 4, (("put", 1), ("look", 0)) * 2)
WRONG_HANDS = tuple(ANY_VALUES) + (
    ((RIGHT_ROW, ()),) * 4, [(RIGHT_ROW, ())], {(RIGHT_ROW, ()): 1}, (RIGHT_ROW, ()), (RIGHT_ROW,), RIGHT_ROW, ((),),
    ((RIGHT_ROW,),), ((RIGHT_ROW, (), ()),), ([RIGHT_ROW, ()],), (((), RIGHT_ROW),), ((RIGHT_ROW, ()), None),
    ((RIGHT_ROW, ()), (RIGHT_ROW, ()), RIGHT_ROW), nested(30), "look",
) + tuple(((row, ()),) for row in WRONG_HAND_ROWS) + tuple(((RIGHT_ROW, keys),) for keys in WRONG_KEYS) + tuple(
    ((RIGHT_ROW, ("a", "b")), (row, ("a",)), (RIGHT_ROW, ())) for row in WRONG_HAND_ROWS) + tuple(
    ((RIGHT_ROW, ()), (RIGHT_ROW, keys)) for keys in WRONG_KEYS)

# No steps of two hands.
WRONG_STEPS = tuple(ANY_VALUES) + (
    ("look",), ("put",), ("look", 2), ("look", -1), ("look", True), ("look", False), ("look", None), ("look", "0"),
    ("look", 0, 0), ["look", 0], (0, "look"), ("Look", 0), ("looks", 0), ("", 0), (None, 0), (("look",), 0),
    ("look", (0,)),
    ("look", [0]), (("look", 0),), "look", {"look": 0}, ("new", 0), ("done", 0), ("look", 10 ** 30), ("put", 2),
    nested(30),
    ("put", True), ("put", False),
)
