"""In which sequences several rows, all previewed from one store, can be run so that each tells what it told."""

from onlytell.acting import walked
from onlytell.checking import check_store
from onlytell.errors import BadRows
from onlytell.forms import is_row
from onlytell.orders import orders_of

MOST_ROWS = 4


def sequences(book, store, rows):
    """("kept", numbers, many) with the first sequence that keeps all rows, or ("none", reasons); BadStore, BadRows."""
    check_store(book, store)
    check_rows(book, rows)
    told = [walked(book, ("run",), store, row)[0] for row in rows]
    kept = []
    reasons = []
    for numbers in orders_of(len(rows)):
        at = first_unkept(book, store, rows, told, numbers)
        if at is None:
            kept.append(numbers)
        else:
            reasons.append((numbers, at))
    if kept:
        return ("kept", kept[0], len(kept))
    return ("none", tuple(reasons))


def first_unkept(book, store, rows, told, numbers):
    """The place in the sequence of the first row that tells something else; None if there is none."""
    for at, number in enumerate(numbers):
        tellings, state = walked(book, ("run",), store, rows[number])
        if tellings != told[number]:
            return at
        store = state[0]
    return None


def check_rows(book, value):
    """BadRows if the value is not a tuple of one to four rows."""
    if not isinstance(value, tuple) or not 1 <= len(value) <= MOST_ROWS:
        raise BadRows(value)
    if not all([is_row(book, row) for row in value]):
        raise BadRows(value)
