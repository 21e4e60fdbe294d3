"""Harm: whether a show ever changes the store, since some deeds are blind."""

from onlytell.checking import check_memory
from onlytell.forms import is_row, is_state, is_store
from onlytell.searching import Steps, is_closed, is_table, searched, sought_steps


class Show:
    """A show with a memory, and what it does to its base; BadMemory."""

    def __init__(self, book, memory):
        check_memory(book, memory)
        self._book = book
        self._machine = ("show", memory)
        self._steps = Steps(book, self._machine)

    def harms(self, state, letter):
        """(whether the base becomes another one, the state that is reached)."""
        later = self._steps.after(state, letter)[1]
        return (later[0] != state[0], later)

    def is_member(self, value):
        """Whether the value is a state of the show."""
        return is_state(self._book, self._machine, value)


def harm(book, memory):
    """("none", table), or ("harms", store, row) with any shortest row; BadMemory, TooMany."""
    show = Show(book, memory)
    answer = searched([(store, ()) for store in book.stores], book.letters, show.harms)
    if answer[0] == "table":
        return ("none", answer[1])
    return ("harms", answer[1][0], answer[2])


def shows_harm(book, memory, value):
    """Whether the value is a right answer of harm; BadMemory."""
    show = Show(book, memory)
    if not isinstance(value, tuple) or len(value) < 2:
        return False
    if value[0] == "none" and len(value) == 2 and is_table(value[1], show.is_member):
        firsts = [(store, ()) for store in book.stores]
        return is_closed(value[1], firsts, book.letters, show.harms)
    if value[0] == "harms" and len(value) == 3 and is_store(book, value[1]) and is_row(book, value[2]):
        return sought_steps((value[1], ()), value[2], show.harms)[-1:] == [True]
    return False
