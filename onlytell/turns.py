"""Several hands on one store, step by step, and whether they have acted in turn.

A state is (first store, store, marks), with a mark for each hand.
"""

from onlytell.acting import walked
from onlytell.errors import BadHands, BadSteps, Stuck
from onlytell.forms import is_integer, is_keys, is_row, is_store, is_worth_or_gone, place_of
from onlytell.orders import orders_of
from onlytell.tellings import is_telling, put_behind

MOST_HANDS = 3
MOST_LETTERS_OF_A_HAND = 3

NEW = ("new",)


class Hands:
    """Hands, each a row and the keys that it checks, which work on one store; BadHands."""

    def __init__(self, book, hands):
        if not is_hands(book, hands):
            raise BadHands(hands)
        self.steps = [(word, number) for number in range(len(hands)) for word in ("look", "put")]
        self._book = book
        self._hands = hands
        self._orders = orders_of(len(hands))
        self._known = {}

    def first(self, store):
        """The state in which all hands are new."""
        return (store, store, (NEW,) * len(self._hands))

    def behind(self, store, steps):
        """The state behind these steps, from this first store; BadSteps."""
        if not isinstance(steps, tuple):
            raise BadSteps(-1)
        state = self.first(store)
        for number, step in enumerate(steps):
            if not self._is_step(step) or not can_come(state, step):
                raise BadSteps(number)
            state = self._after(state, step)
        return state

    def mixing(self, state, step):
        """(whether all are done behind the step, and have not acted in turn, the state that is reached)."""
        # A step that cannot come leads nowhere else.
        later = self._after(state, step) if can_come(state, step) else state
        return (self.is_mixed(later), later)

    def is_mixed(self, state):
        """Whether all hands are done, and have not acted in turn."""
        if not all([mark[0] == "done" for mark in state[2]]):
            return False
        return not any([self._is_turn(state, numbers) for numbers in self._orders])

    def is_member(self, value):
        """Whether the value is a first store, a store, and marks, by their form."""
        if not isinstance(value, tuple) or len(value) != 3:
            return False
        if not is_store(self._book, value[0]) or not is_store(self._book, value[1]):
            return False
        marks = value[2]
        if not isinstance(marks, tuple) or len(marks) != len(self._hands):
            return False
        return all([self._is_mark(hand, mark) for hand, mark in zip(self._hands, marks)])

    def _is_step(self, value):
        if not isinstance(value, tuple) or len(value) != 2 or value[0] not in ("look", "put"):
            return False
        return is_integer(value[1]) and 0 <= value[1] < len(self._hands)

    def _is_mark(self, hand, value):
        if not isinstance(value, tuple) or len(value) == 0:
            return False
        if len(value) == 1:
            return value == NEW
        if not self._is_told(hand, value[1]):
            return False
        if value[0] == "looked":
            return len(value) == 3 and self._is_checked(hand, value[2])
        return value[0] == "done" and len(value) == 2

    def _is_told(self, hand, value):
        """Whether the value has a telling for each letter of the hand."""
        if not isinstance(value, tuple) or len(value) != len(hand[0]):
            return False
        return all([is_telling(self._book, telling) for telling in value])

    def _is_checked(self, hand, value):
        """Whether the value has a worth of each key that the hand checks."""
        if not isinstance(value, tuple) or len(value) != len(hand[1]):
            return False
        rows = [self._book.key_rows[place_of(self._book, key)] for key in hand[1]]
        return all([is_worth_or_gone(row, worth) for row, worth in zip(rows, value)])

    def _after(self, state, step):
        """The state behind a step that can come."""
        word, number = step
        first, store, marks = state
        if word == "look":
            mark = ("looked", self._run(number, store)[0], self._checked(number, store))
            return (first, store, marked(marks, number, mark))
        later = self._put(number, store, marks[number])
        if later is None:
            return (first, store, marked(marks, number, NEW))
        return (first, later, marked(marks, number, ("done", marks[number][1])))

    def _put(self, number, store, mark):
        """The store into which is put what a hand was told when it looked; None if this cannot be done."""
        if self._checked(number, store) != mark[2]:
            return None
        effects = [effect for telling in mark[1] for effect in telling]
        try:
            return put_behind(self._book, store, effects)
        except Stuck:
            return None

    def _checked(self, number, store):
        """The worths of the keys that a hand checks."""
        return tuple([store[place_of(self._book, key)] for key in self._hands[number][1]])

    def _run(self, number, store):
        """(tellings, the store behind) of a run of the row of a hand."""
        if (number, store) not in self._known:
            tellings, state = walked(self._book, ("run",), store, self._hands[number][0])
            self._known[(number, store)] = (tellings, state[0])
        return self._known[(number, store)]

    def _is_turn(self, state, numbers):
        """Whether the rows, run in this order, tell what the marks have, and lead to the store."""
        now, store, marks = state
        for number in numbers:
            tellings, now = self._run(number, now)
            if tellings != marks[number][1]:
                return False
        return now == store


def is_hands(book, value):
    """Whether the value is a tuple of one to three hands."""
    if not isinstance(value, tuple) or not 1 <= len(value) <= MOST_HANDS:
        return False
    return all([is_hand(book, hand) for hand in value])


def is_hand(book, value):
    """Whether the value is a row of a hand, and the keys that it checks."""
    if not isinstance(value, tuple) or len(value) != 2:
        return False
    return is_hand_row(book, value[0]) and is_keys(book, value[1])


def is_hand_row(book, value):
    """Whether the value is a row that a hand can have."""
    return is_row(book, value) and 1 <= len(value) <= MOST_LETTERS_OF_A_HAND


def can_come(state, step):
    """Whether this step of a hand can come."""
    stands = state[2][step[1]][0]
    return stands != "done" if step[0] == "look" else stands == "looked"


def marked(marks, number, mark):
    """The marks, with another one for this hand."""
    return marks[:number] + (mark,) + marks[number + 1:]
