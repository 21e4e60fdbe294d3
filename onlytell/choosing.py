"""The cheapest choice of keys to remember and of deeds to teach, so that a show becomes good."""

from onlytell.beside import beside, shows_beside
from onlytell.errors import BadOffers, BadWish
from onlytell.forms import is_ascending, is_kept, is_price
from onlytell.harm import harm, shows_harm
from onlytell.orders import place_in, sets_of

MOST_OFFERS = 4
WISHES = ("true", "harmless", "both")


def cheapest(book, offers, *, wish="both"):
    """The first good choice, with evidence against each one ahead of it; BadOffers, BadWish, TooMany."""
    check_offers(book, offers)
    check_wish(wish)
    reasons = []
    for price, choice in choices_of(offers):
        tables, reason = judged(book, choice, wish)
        if reason is None:
            return ("choice", price, choice, tables, tuple(reasons))
        reasons.append((choice,) + reason)
    return ("none", tuple(reasons))


def shows_cheapest(book, offers, value, *, wish="both"):
    """Whether the value is a right answer of cheapest; BadOffers, BadWish."""
    check_offers(book, offers)
    check_wish(wish)
    if not isinstance(value, tuple):
        return False
    choices = choices_of(offers)
    if len(value) == 2 and value[0] == "none":
        return shows_reasons(book, [choice for _, choice in choices], value[1], wish)
    place = place_in(choices, value[1:3])
    if len(value) != 5 or value[0] != "choice" or place is None:
        return False
    if not shows_reasons(book, [choice for _, choice in choices[:place]], value[4], wish):
        return False
    return shows_tables(book, value[2], value[3], wish)


def check_offers(book, value):
    """BadOffers if the value is not a tuple of offers for this book."""
    if not isinstance(value, tuple) or not 1 <= len(value) <= MOST_OFFERS:
        raise BadOffers(value)
    # Changes are tuples of strings, so only right ones are compared.
    if not all([is_offer(book, offer) for offer in value]) or not is_ascending([offer[0] for offer in value]):
        raise BadOffers(value)


def is_offer(book, value):
    """Whether the value is a change of this book, and its price."""
    if not isinstance(value, tuple) or len(value) != 2 or not is_change(book, value[0]):
        return False
    return is_price(value[1])


def is_change(book, value):
    """Whether the value is a key to keep, or a blind deed to teach."""
    if not isinstance(value, tuple) or len(value) < 2:
        return False
    if value[0] == "keep":
        return is_kept(book, value[1:])
    return value[0] == "teach" and len(value) == 2 and value[1] in [row[0] for row in book.deeds if row[2]]


def check_wish(value):
    """BadWish if the value is not the name of a wish."""
    if value not in WISHES:
        raise BadWish(value)


def choices_of(offers):
    """All choices as (price, choice), sorted by price, then as tuples."""
    return sorted([(price, choice) for price, choice in sets_of(offers) if keeps_no_key_twice(choice)])


def keeps_no_key_twice(choice):
    """Whether each key is kept in one way only."""
    keys = [change[1] for change in choice if change[0] == "keep"]
    return len(set(keys)) == len(keys)


def given(book, choice):
    """The book and the memory that a choice gives."""
    deeds = tuple([change[1] for change in choice if change[0] == "teach"])
    return (book.taught(deeds), tuple([change[1:] for change in choice if change[0] == "keep"]))


def judged(book, choice, wish):
    """(tables, None) of a good choice; otherwise ((), (what, store, row))."""
    taught, memory = given(book, choice)
    tables = ()
    if wish != "harmless":
        answer = beside(taught, ("run",), taught, ("show", memory))
        if answer[0] == "parts":
            return ((), answer)
        tables = tables + (answer[1],)
    if wish != "true":
        answer = harm(taught, memory)
        if answer[0] == "harms":
            return ((), answer)
        tables = tables + (answer[1],)
    return (tables, None)


def shows_tables(book, choice, value, wish):
    """Whether the value has the tables that show that a choice is good."""
    taught, memory = given(book, choice)
    if not isinstance(value, tuple) or len(value) != (2 if wish == "both" else 1):
        return False
    if wish != "harmless" and not shows_beside(taught, ("run",), taught, ("show", memory), ("alike", value[0])):
        return False
    return wish == "true" or shows_harm(taught, memory, ("none", value[-1]))


def shows_reasons(book, choices, value, wish):
    """Whether the value has a right reason against each of these choices, in their sequence."""
    if not isinstance(value, tuple) or len(value) != len(choices):
        return False
    return all([shows_reason(book, choice, reason, wish) for choice, reason in zip(choices, value)])


def shows_reason(book, choice, value, wish):
    """Whether the value is (choice, what, store, row) with a row that shows that this choice is not good."""
    if not isinstance(value, tuple) or len(value) != 4 or value[0] != choice:
        return False
    taught, memory = given(book, choice)
    if value[1] == "parts" and wish != "harmless":
        return shows_beside(taught, ("run",), taught, ("show", memory), value[1:])
    return value[1] == "harms" and wish != "true" and shows_harm(taught, memory, value[1:])
