"""Arguments that have the wrong form are refused here, each with the error that the document names for it."""

from onlytell.errors import BadLetter, BadMachine, BadMemory, BadRow, BadState, BadStore
from onlytell.forms import is_letter, is_machine, is_memory, is_state, is_store


def check_store(book, value):
    """BadStore if the value is not a store of the book."""
    if not is_store(book, value):
        raise BadStore(value)


def check_row(book, value):
    """BadRow with the number of the first member that is not a letter, or -1 for no tuple."""
    if not isinstance(value, tuple):
        raise BadRow(-1)
    for number, letter in enumerate(value):
        if not is_letter(book, letter):
            raise BadRow(number)


def check_memory(book, value):
    """BadMemory if the value is not a memory of the book."""
    if not is_memory(book, value):
        raise BadMemory(value)


def check_machine(book, value):
    """BadMachine if the value is not a machine of the book."""
    if not is_machine(book, value):
        raise BadMachine(value)


def check_state(book, machine, value):
    """BadState if the value is not a state of this machine."""
    if not is_state(book, machine, value):
        raise BadState(value)


def check_letter(book, value):
    """BadLetter if the value is not a letter of the book."""
    if not is_letter(book, value):
        raise BadLetter(value)
