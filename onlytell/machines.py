"""Machines, each of which runs or shows letter by letter, from state to state."""

from onlytell.acting import step
from onlytell.checking import check_letter, check_machine, check_state


def stepped(book, machine, state, letter):
    """(telling, state behind it) of a letter; BadMachine, BadState, BadLetter."""
    check_machine(book, machine)
    check_state(book, machine, state)
    check_letter(book, letter)
    return step(book, machine, state, letter)
