"""Runs of rows of letters."""

from onlytell.acting import walked
from onlytell.checking import check_row, check_store


def ran(book, store, row):
    """(tellings, the store behind the row) of a run; BadStore, BadRow."""
    check_store(book, store)
    check_row(book, row)
    tellings, state = walked(book, ("run",), store, row)
    return (tellings, state[0])
