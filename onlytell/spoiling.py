"""Which letters of others, run ahead of a previewed row, spoil what it tells, and which are cheapest to bar."""

from onlytell.acting import told_from_each
from onlytell.checking import check_letters, check_prices, check_row, check_store
from onlytell.forms import is_row, is_same, is_store
from onlytell.orders import place_in, sets_by_price
from onlytell.searching import Steps, is_closed, is_table, searched


class Previewed:
    """A row that was previewed from a store, while others may run certain letters; BadStore, BadRow, BadLetters."""

    def __init__(self, book, store, row, letters):
        check_store(book, store)
        check_row(book, row)
        check_letters(book, letters)
        self._book = book
        self._store = store
        self._steps = Steps(book, ("run",))
        self._told = told_from_each(book, row)

    def is_spoilt(self, store):
        """Whether the row tells something else from this store."""
        return self._told[store] != self._told[self._store]

    def spoiling(self, store, letter):
        """(whether the row is spoilt behind the letter, the store that is reached)."""
        later = self._steps.after((store, ()), letter)[1][0]
        return (self.is_spoilt(later), later)

    def answer(self, letters):
        """What `spoils` returns if the others run these letters."""
        found = searched([self._store], letters, self.spoiling)
        if found[0] == "table":
            return ("never", found[1])
        return ("spoils", found[2])

    def is_never_spoilt(self, letters, value):
        """Whether the value is a tuple of stores which shows that these letters never spoil the row."""
        if not is_table(value, self._is_store) or any([self.is_spoilt(store) for store in value]):
            return False
        return is_closed(value, [self._store], letters, self.spoiling)

    def is_spoilt_by(self, letters, value):
        """Whether the value is a row of these letters behind which the row tells something else."""
        if not is_row(self._book, value) or not all([letter in letters for letter in value]):
            return False
        store = self._store
        for letter in value:
            store = self.spoiling(store, letter)[1]
        return self.is_spoilt(store)

    def _is_store(self, value):
        return is_store(self._book, value)


def spoils(book, store, row, letters):
    """("never", stores), or ("spoils", others) with any shortest row of the others; BadStore, BadRow, BadLetters."""
    return Previewed(book, store, row, letters).answer(letters)


def shows_spoils(book, store, row, letters, value):
    """Whether the value is a right answer of spoils; BadStore, BadRow, BadLetters."""
    previewed = Previewed(book, store, row, letters)
    if not isinstance(value, tuple) or len(value) != 2:
        return False
    if value[0] == "never":
        return previewed.is_never_spoilt(letters, value[1])
    return value[0] == "spoils" and previewed.is_spoilt_by(letters, value[1])


def bars(book, store, row, letters, prices):
    """(price, set, stores, reasons) of the first set of letters that must be barred, so that none spoils the row.

    BadStore, BadRow, BadLetters, BadPrices.
    """
    previewed = Previewed(book, store, row, letters)
    check_prices(len(letters), prices)
    reasons = []
    for price, barred in sets_by_price(list(zip(letters, prices))):
        word, found = previewed.answer(left_of(letters, barred))
        if word == "never":
            return (price, barred, found, tuple(reasons))
        reasons.append((barred, found))


def shows_bars(book, store, row, letters, prices, value):
    """Whether the value is a right answer of bars; BadStore, BadRow, BadLetters, BadPrices."""
    previewed = Previewed(book, store, row, letters)
    check_prices(len(letters), prices)
    if not isinstance(value, tuple) or len(value) != 4:
        return False
    sets = sets_by_price(list(zip(letters, prices)))
    place = place_in(sets, value[:2])
    if place is None or not previewed.is_never_spoilt(left_of(letters, value[1]), value[2]):
        return False
    if not isinstance(value[3], tuple) or len(value[3]) != place:
        return False
    ahead = [barred for _, barred in sets[:place]]
    return all([shows_reason(previewed, letters, barred, part) for barred, part in zip(ahead, value[3])])


def shows_reason(previewed, letters, barred, value):
    """Whether the value is (set, others), with others that spoil the row though this set is barred."""
    if not isinstance(value, tuple) or len(value) != 2 or not is_same(barred, value[0]):
        return False
    return previewed.is_spoilt_by(left_of(letters, barred), value[1])


def left_of(letters, barred):
    """The letters that others may still run if some are barred."""
    return tuple([letter for letter in letters if letter not in barred])
