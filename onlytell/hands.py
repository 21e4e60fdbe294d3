"""Several hands, each of which looks first and puts later: whether they act in turn, and what they must check."""

from onlytell.checking import check_store
from onlytell.errors import BadOffers, BadRows, BadSteps
from onlytell.forms import is_ascending, is_integer, is_price, is_same, is_store, place_of
from onlytell.orders import place_in, sets_of
from onlytell.searching import is_closed, is_table, searched
from onlytell.turns import MOST_HANDS, Hands, is_hand_row

MOST_OFFERS = 3


def played(book, store, hands, steps):
    """(store, marks) behind the steps; BadStore, BadHands, BadSteps."""
    check_store(book, store)
    return Hands(book, hands).behind(store, steps)[1:]


def in_turn(book, hands):
    """("turns", table), or ("mixed", store, steps) with the first such store and any fewest steps; BadHands."""
    turns = Hands(book, hands)
    table = ()
    for store in book.stores:
        answer = searched([turns.first(store)], turns.steps, turns.mixing)
        if answer[0] == "row":
            return ("mixed", store, answer[2])
        table = table + answer[1]
    return ("turns", table)


def shows_in_turn(book, hands, value):
    """Whether the value is a right answer of in_turn; BadHands."""
    turns = Hands(book, hands)
    if not isinstance(value, tuple) or len(value) not in (2, 3):
        return False
    if len(value) == 2:
        return value[0] == "turns" and shows_turns(book, turns, value[1])
    return value[0] == "mixed" and is_store(book, value[1]) and shows_mixed(turns, value[1], value[2])


def shows_turns(book, turns, value):
    """Whether the value is a closed table with all first states, in no member of which the hands are mixed."""
    # Where all hands are done no step can come, so what is asked of the steps is asked of the member itself.
    firsts = [turns.first(store) for store in book.stores]
    return is_table(value, turns.is_member) and is_closed(value, firsts, turns.steps, turns.mixing)


def shows_mixed(turns, store, value):
    """Whether the value has steps that can come from this store, behind which the hands are mixed."""
    try:
        state = turns.behind(store, value)
    except BadSteps:
        return False
    return turns.is_mixed(state)


def checks(book, rows, offers):
    """The first choice of checks with which the hands act in turn, and evidence against each one ahead of it.

    BadRows, BadOffers.
    """
    check_rows(book, rows)
    check_offers(book, rows, offers)
    reasons = []
    for price, choice in sorted(sets_of(offers)):
        answer = in_turn(book, checking_hands(rows, choice))
        if answer[0] == "turns":
            return ("choice", price, choice, answer[1], tuple(reasons))
        reasons.append((choice,) + answer[1:])
    return ("none", tuple(reasons))


def shows_checks(book, rows, offers, value):
    """Whether the value is a right answer of checks; BadRows, BadOffers."""
    check_rows(book, rows)
    check_offers(book, rows, offers)
    if not isinstance(value, tuple) or len(value) not in (2, 5):
        return False
    choices = sorted(sets_of(offers))
    if len(value) == 2:
        return value[0] == "none" and shows_reasons(book, rows, choices, value[1])
    place = place_in(choices, value[1:3])
    if value[0] != "choice" or place is None or not shows_reasons(book, rows, choices[:place], value[4]):
        return False
    return shows_in_turn(book, checking_hands(rows, value[2]), ("turns", value[3]))


def shows_reasons(book, rows, choices, value):
    """Whether the value has, for each of these choices in their sequence, (choice, store, steps) that are mixed."""
    if not isinstance(value, tuple) or len(value) != len(choices):
        return False
    return all([shows_reason(book, rows, choice, part) for (_, choice), part in zip(choices, value)])


def shows_reason(book, rows, choice, value):
    """Whether the value is (choice, store, steps), with steps to where the hands that check so are mixed."""
    if not isinstance(value, tuple) or len(value) != 3 or not is_same(choice, value[0]):
        return False
    return shows_in_turn(book, checking_hands(rows, choice), ("mixed",) + value[1:])


def checking_hands(rows, choice):
    """The hands with these rows, each of which checks the keys that the choice has for it."""
    return tuple([(row, keys_checked(choice, number)) for number, row in enumerate(rows)])


def keys_checked(choice, number):
    """The keys that a choice lets the hand of this number check."""
    return tuple([key for hand, key in choice if hand == number])


def check_rows(book, value):
    """BadRows if the value is not a tuple of one to three rows that hands can have."""
    if not isinstance(value, tuple) or not 1 <= len(value) <= MOST_HANDS:
        raise BadRows(value)
    if not all([is_hand_row(book, row) for row in value]):
        raise BadRows(value)


def check_offers(book, rows, value):
    """BadOffers if the value is not a tuple of offers for hands with these rows."""
    if not isinstance(value, tuple) or not 1 <= len(value) <= MOST_OFFERS:
        raise BadOffers(value)
    if not all([is_offer(book, rows, offer) for offer in value]) or not is_ascending([offer[0] for offer in value]):
        raise BadOffers(value)


def is_offer(book, rows, value):
    """Whether the value is ((number of a row, key), price)."""
    if not isinstance(value, tuple) or len(value) != 2 or not is_price(value[1]):
        return False
    return is_check(book, rows, value[0])


def is_check(book, rows, value):
    """Whether the value is (number of a row, key)."""
    if not isinstance(value, tuple) or len(value) != 2 or not is_integer(value[0]):
        return False
    return 0 <= value[0] < len(rows) and place_of(book, value[1]) is not None
