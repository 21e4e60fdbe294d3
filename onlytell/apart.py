"""Which stores a row can tell apart, if a machine begins with them."""

from onlytell.beside import Pair
from onlytell.checking import check_machine, check_store
from onlytell.searching import Steps, searched


def apart(book, machine, store, other):
    """("never", table), or ("row", row) with any shortest row; BadMachine, BadStore, TooMany."""
    pair = pair_of(book, machine, store, other)
    answer = searched([first_of(store, other)], book.letters, pair.parts)
    if answer[0] == "table":
        return ("never", answer[1])
    return ("row", answer[2])


def shows_apart(book, machine, store, other, value):
    """Whether the value is a right answer of apart; BadMachine, BadStore."""
    pair = pair_of(book, machine, store, other)
    if not isinstance(value, tuple) or len(value) != 2:
        return False
    if value[0] == "never":
        return pair.shows_alike([first_of(store, other)], value[1])
    return value[0] == "row" and pair.shows_parting(first_of(store, other), value[1])


def classes(book, machine):
    """The ascending tuple of the classes of stores that no row tells apart; BadMachine, TooMany."""
    check_machine(book, machine)
    steps = Steps(book, machine)
    states = searched([(store, ()) for store in book.stores], book.letters, steps.unsought)[1]
    numbers = numbers_of_classes(steps, states, book.letters)
    groups = {}
    for store in book.stores:
        groups.setdefault(numbers[(store, ())], []).append(store)
    # The stores are ascending, so the classes are, too, each of which begins with its first store.
    return tuple([tuple(group) for group in groups.values()])


def numbers_of_classes(steps, states, letters):
    """A number for each state, the same for two states just if no row tells them apart.

    States are alike at first if each letter alone tells the same from them; then those are parted from which some
    letter leads to states that are not alike, until none is parted any more.
    """
    told = {state: tuple([steps.after(state, letter)[0] for letter in letters]) for state in states}
    laters = {state: [steps.after(state, letter)[1] for letter in letters] for state in states}
    many = 0
    numbers = numbered(told)
    while many != how_many(numbers):
        many = how_many(numbers)
        marks = {state: (numbers[state],) + tuple([numbers[later] for later in laters[state]]) for state in states}
        numbers = numbered(marks)
    return numbers


def numbered(marks):
    """A number for each state, the same just where the marks are the same."""
    known = {}
    numbers = {}
    for state, mark in marks.items():
        numbers[state] = known.setdefault(mark, len(known))
    return numbers


def how_many(numbers):
    """How many numbers there are, each counted once."""
    return len(set(list(numbers.values())))


def pair_of(book, machine, store, other):
    """The machine beside itself; BadMachine, BadStore for store, then for other."""
    pair = Pair(book, machine, book, machine)
    check_store(book, store)
    check_store(book, other)
    return pair


def first_of(store, other):
    """The pair of states with which the machine begins in these stores."""
    return ((store, ()), (other, ()))
