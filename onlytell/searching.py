"""Searches for a shortest row, and tables of states that show that there is none.

A search is given what its states are by a function step(state, letter), which returns (whether this is a step that
is sought, the state that is reached).
"""

from onlytell.acting import step
from onlytell.errors import TooMany
from onlytell.forms import is_ascending

# How many states a search may reach by fewer letters than the row has that it finds.
MOST_STATES = 1500


class Steps:
    """The steps of a machine, each of which is worked out only once."""

    def __init__(self, book, machine):
        self._book = book
        self._machine = machine
        self._known = {}

    def after(self, state, letter):
        """(telling, state behind it) of a letter."""
        if (state, letter) not in self._known:
            self._known[(state, letter)] = step(self._book, self._machine, state, letter)
        return self._known[(state, letter)]

    def unsought(self, state, letter):
        """(False, the state behind the letter), where all states are looked for, and no row."""
        return (False, self.after(state, letter)[1])


def searched(firsts, letters, one_step):
    """("row", first state, row) of any shortest row whose last step is sought, or ("table", all states reached)."""
    # Each state, with the one ahead of it and the letter between them; none for a first state.
    reached = {first: None for first in firsts}
    level = list(firsts)
    while level:
        if len(reached) > MOST_STATES:
            raise TooMany(MOST_STATES)
        further = []
        for state in level:
            for letter in letters:
                is_sought, later = one_step(state, letter)
                if is_sought:
                    first, row = row_to(reached, state)
                    return ("row", first, row + (letter,))
                if later not in reached:
                    reached[later] = (state, letter)
                    further.append(later)
        level = further
    return ("table", tuple(sorted(list(reached))))


def row_to(reached, state):
    """(the first state, the row that leads from it to this state)."""
    row = []
    while reached[state] is not None:
        state, letter = reached[state]
        row.append(letter)
    return (state, tuple(row[::-1]))


def is_table(value, is_member):
    """Whether the value is an ascending tuple of members of this form."""
    if not isinstance(value, tuple) or not all([is_member(member) for member in value]):
        return False
    return is_ascending(value)


def is_closed(table, firsts, letters, one_step):
    """Whether a table has the first states, and no step from a member is sought or leads out of it."""
    members = {member: True for member in table}
    if not all([first in members for first in firsts]):
        return False
    for state in table:
        for letter in letters:
            is_sought, later = one_step(state, letter)
            if is_sought or later not in members:
                return False
    return True


def sought_steps(first, row, one_step):
    """For each letter of a row, from this state, whether its step is sought."""
    found = []
    state = first
    for letter in row:
        is_sought, state = one_step(state, letter)
        found.append(is_sought)
    return found
