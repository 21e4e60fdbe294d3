"""On which keys the tellings of a run depend, and which keys are cheapest to compare to know that they still hold."""

from onlytell.acting import acted, told_from_each
from onlytell.checking import check_prices, check_row, check_store
from onlytell.forms import is_same, is_store, place_of
from onlytell.orders import place_in, sets_by_price


def hangs(book, row):
    """(key, store, other) for each key on which the tellings of the row hang, ascending by the keys; BadRow."""
    check_row(book, row)
    told = told_from_each(book, row)
    found = []
    for key in sorted_keys(book):
        for store, other in stores_that_differ(book, key):
            if told[store] != told[other]:
                found.append((key, store, other))
                break
    return tuple(found)


def shows_hangs(book, row, value):
    """Whether the value is a right answer of hangs; BadRow."""
    right = hangs(book, row)
    if not isinstance(value, tuple) or len(value) != len(right):
        return False
    told = told_from_each(book, row)
    return all([shows_hanging(book, told, part[0], member) for part, member in zip(right, value)])


def shows_hanging(book, told, key, value):
    """Whether the value is (key, store, other), with stores that differ in this key alone, which tell else."""
    if not isinstance(value, tuple) or len(value) != 3 or value[0] != key:
        return False
    if not is_store(book, value[1]) or not is_store(book, value[2]):
        return False
    return value[1:] in stores_that_differ(book, key) and told[value[1]] != told[value[2]]


def stores_that_differ(book, key):
    """All (store, other) that differ in this key alone, in either sequence."""
    place = place_of(book, key)
    pairs = []
    for store in book.stores:
        for other in book.stores:
            if store != other and store[:place] == other[:place] and store[place + 1:] == other[place + 1:]:
                pairs.append((store, other))
    return pairs


def reads(book, store, row):
    """The ascending tuple of the keys of which a run of the row reads the worth that they had at first.

    BadStore, BadRow.
    """
    check_store(book, store)
    check_row(book, row)
    changed = {}
    read = {}
    state = (store, ())
    for letter in row:
        scene = acted(book, ("run",), state, letter)
        for key in scene.read_first:
            if key not in changed:
                read[key] = True
        for key in scene.changed:
            changed[key] = True
        state = scene.state_behind()
    return tuple(sorted(list(read)))


def stamps(book, store, row, prices):
    """(price, keys, reasons) of the first set of keys which suffices to know that the row tells the same.

    BadStore, BadRow, BadPrices.
    """
    check_stamps(book, store, row, prices)
    told = told_from_each(book, row)
    reasons = []
    for price, keys in sets_by_price(priced_keys(book, prices)):
        others = [other for other in book.stores if is_unlike(book, told, store, keys, other)]
        if not others:
            return (price, keys, tuple(reasons))
        reasons.append((keys, others[0]))


def shows_stamps(book, store, row, prices, value):
    """Whether the value is a right answer of stamps; BadStore, BadRow, BadPrices."""
    check_stamps(book, store, row, prices)
    if not isinstance(value, tuple) or len(value) != 3:
        return False
    sets = sets_by_price(priced_keys(book, prices))
    place = place_in(sets, value[:2])
    if place is None or not isinstance(value[2], tuple) or len(value[2]) != place:
        return False
    told = told_from_each(book, row)
    if any([is_unlike(book, told, store, value[1], other) for other in book.stores]):
        return False
    ahead = [keys for _, keys in sets[:place]]
    return all([shows_reason(book, told, store, keys, part) for keys, part in zip(ahead, value[2])])


def shows_reason(book, told, store, keys, value):
    """Whether the value is (set, other), with a store that agrees on this set and tells something else."""
    if not isinstance(value, tuple) or len(value) != 2 or not is_same(keys, value[0]):
        return False
    return is_store(book, value[1]) and is_unlike(book, told, store, keys, value[1])


def check_stamps(book, store, row, prices):
    """BadStore, BadRow, or BadPrices if there is not a price for each key."""
    check_store(book, store)
    check_row(book, row)
    check_prices(len(book.key_rows), prices)


def sorted_keys(book):
    """The names of the keys, ascending."""
    return sorted([row[0] for row in book.key_rows])


def priced_keys(book, prices):
    """(key, price) of each key, ascending by the keys."""
    return sorted([(row[0], price) for row, price in zip(book.key_rows, prices)])


def is_unlike(book, told, store, keys, other):
    """Whether the other store agrees with the store on these keys, but the row tells something else from it."""
    places = [place_of(book, key) for key in keys]
    return all([store[place] == other[place] for place in places]) and told[store] != told[other]
