"""Looks: which worths the statements of a letter read, and where those of a show are first unlike those of a run."""

from onlytell.acting import acted
from onlytell.checking import check_letter, check_machine, check_memory, check_row, check_state, check_store
from onlytell.naming import keys_meant, names_in_sums, rows_below


def looks(book, machine, state, letter):
    """All looks of a letter, in sequence, each (line, key, worth); BadMachine, BadState, BadLetter."""
    check_machine(book, machine)
    check_state(book, machine, state)
    check_letter(book, letter)
    return tuple(acted(book, machine, state, letter).seen)


def first_unlike(book, memory, store, row):
    """(number, at, line, key, worth, other) of the first look that finds unlike worths in run and show, or None.

    BadMemory, BadStore, BadRow.
    """
    check_memory(book, memory)
    check_store(book, store)
    check_row(book, row)
    state = other_state = (store, ())
    for number, letter in enumerate(row):
        scene = acted(book, ("run",), state, letter)
        other_scene = acted(book, ("show", memory), other_state, letter)
        # Up to the first unlike worths both do the same, so each look has its partner.
        for at, (one, other) in enumerate(list(zip(scene.seen, other_scene.seen))):
            if one[2] != other[2]:
                return (number, at, one[0], one[1], one[2], other[2])
        state, other_state = scene.state_behind(), other_scene.state_behind()
    return None


def enough(book):
    """The ascending tuple of the keys that some statement can look at, and some statement can change."""
    looked_at = {}
    changed = {}
    for program in book.script.programs.values():
        for statement, group in rows_below(program.block, ""):
            for key in keys_looked_at(book.script, statement, group):
                looked_at[key] = True
            for key in keys_changed(book.script, statement, group):
                changed[key] = True
    return tuple([key for key in sorted(list(looked_at)) if key in changed])


def keys_looked_at(script, statement, group):
    """The keys that a statement can look at, by the text alone."""
    keys = []
    for name in names_in_sums(statement):
        keys.extend(keys_meant(script, name, group))
    if statement.word in ("add", "drop") or statement.sign == "has":
        keys.extend(keys_meant(script, statement.name, group))
    if statement.word == "set":
        keys.extend([key for key in keys_meant(script, statement.name, group) if key in script.woken])
    if statement.word == "each":
        keys.extend(script.members[statement.name])
    return keys


def keys_changed(script, statement, group):
    """The keys that a statement can set, add to or drop."""
    if statement.word in ("set", "add", "drop"):
        return keys_meant(script, statement.name, group)
    return []
