"""Arguments that have the wrong form are refused here, each with the error that the document names for it."""

from onlytell.errors import (
    BadInput, BadLetter, BadLetters, BadMachine, BadMemory, BadPrices, BadRow, BadState, BadStore,
)
from onlytell.forms import (
    is_input, is_letter, is_letters, is_machine, is_memory, is_prices, is_state, is_store,
)


def check_store(book, value):
    """BadStore if the value is not a store of the book."""
    if not is_store(book, value):
        raise BadStore(value)


def check_row(book, value):
    """BadRow with the number of the first member that is not a letter, or -1 for no tuple."""
    if not isinstance(value, tuple):
        raise BadRow(-1)
    for number, letter in enumerate(value):
        if not is_letter(book, letter):
            raise BadRow(number)


def check_memory(book, value):
    """BadMemory if the value is not a memory of the book."""
    if not is_memory(book, value):
        raise BadMemory(value)


def check_machine(book, value):
    """BadMachine if the value is not a machine of the book."""
    if not is_machine(book, value):
        raise BadMachine(value)


def check_state(book, machine, value):
    """BadState if the value is not a state of this machine."""
    if not is_state(book, machine, value):
        raise BadState(value)


def check_letter(book, value):
    """BadLetter if the value is not a letter of the book."""
    if not is_letter(book, value):
        raise BadLetter(value)


def check_letters(book, value):
    """BadLetters if the value is not an ascending tuple of letters of the book."""
    if not is_letters(book, value):
        raise BadLetters(value)


def check_prices(many, value):
    """BadPrices if the value is not a tuple of so many prices."""
    if not is_prices(value, many):
        raise BadPrices(value)


def check_deed_and_input(book, name, it):
    """NoDeed if there is no deed of this name, BadInput if this is none of its inputs."""
    if not is_input(book[name].size, it):
        raise BadInput(it)
