"""Shows of rows of letters: what they would do, as far as the show remembers it."""

from onlytell.acting import walked
from onlytell.checking import check_memory, check_row, check_store


def shown(book, store, memory, row):
    """(tellings, the base behind the row, what is remembered then) of a show; BadStore, BadMemory, BadRow."""
    check_store(book, store)
    check_memory(book, memory)
    check_row(book, row)
    tellings, state = walked(book, ("show", memory), store, row)
    return (tellings, state[0], state[1])
