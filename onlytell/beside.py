"""Two machines beside each other: whether they always tell the same, by the same letters."""

from onlytell.checking import check_machine, check_memory
from onlytell.errors import Unlike
from onlytell.forms import is_row, is_state, is_store
from onlytell.searching import Steps, is_closed, is_table, searched, sought_steps


class Pair:
    """Two machines that go by the same letters; BadMachine, Unlike."""

    def __init__(self, book, one, newer, other):
        check_machine(book, one)
        if newer.key_rows != book.key_rows or newer.letters != book.letters:
            raise Unlike(newer)
        check_machine(newer, other)
        self._books = (book, newer)
        self._machines = (one, other)
        self._steps = Steps(book, one)
        self._other_steps = Steps(newer, other)

    def parts(self, states, letter):
        """(whether the two tell different things, the pair of states that is reached)."""
        telling, state = self._steps.after(states[0], letter)
        other_telling, other_state = self._other_steps.after(states[1], letter)
        return (telling != other_telling, (state, other_state))

    def is_member(self, value):
        """Whether the value is a pair of states of the two."""
        if not isinstance(value, tuple) or len(value) != 2:
            return False
        if not is_state(self._books[0], self._machines[0], value[0]):
            return False
        return is_state(self._books[1], self._machines[1], value[1])

    def shows_alike(self, firsts, value):
        """Whether the value is a closed table with these first pairs, in which both always tell the same."""
        return is_table(value, self.is_member) and is_closed(value, firsts, self._books[0].letters, self.parts)

    def shows_parting(self, first, value):
        """Whether the value is a row by whose last letter both tell different things, and by no letter ahead."""
        if not is_row(self._books[0], value):
            return False
        found = sought_steps(first, value, self.parts)
        return found[-1:] == [True] and not any(found[:-1])


def beside(book, one, newer, other):
    """("alike", table), or ("parts", store, row) with any shortest row; BadMachine, Unlike, TooMany."""
    pair = Pair(book, one, newer, other)
    answer = searched([first_pair(store) for store in book.stores], book.letters, pair.parts)
    if answer[0] == "table":
        return ("alike", answer[1])
    return ("parts", answer[1][0][0], answer[2])


def shows_beside(book, one, newer, other, value):
    """Whether the value is a right answer of beside; BadMachine, Unlike."""
    pair = Pair(book, one, newer, other)
    if not isinstance(value, tuple) or len(value) < 2:
        return False
    if value[0] == "alike" and len(value) == 2:
        return pair.shows_alike([first_pair(store) for store in book.stores], value[1])
    if value[0] == "parts" and len(value) == 3 and is_store(book, value[1]):
        return pair.shows_parting(first_pair(value[1]), value[2])
    return False


def is_true(book, memory):
    """Whether the show with this memory always tells what the run tells; BadMemory, TooMany."""
    check_memory(book, memory)
    return beside(book, ("run",), book, ("show", memory))[0] == "alike"


def parted(book, memory):
    """The ascending letters by which alone run and show tell different things from some store; BadMemory."""
    check_memory(book, memory)
    pair = Pair(book, ("run",), book, ("show", memory))
    return tuple([letter for letter in sorted(book.letters) if parts_somewhere(book, pair, letter)])


def parts_somewhere(book, pair, letter):
    """Whether the two tell different things by this letter, from some store."""
    return any([pair.parts(first_pair(store), letter)[0] for store in book.stores])


def first_pair(store):
    """The states of two machines that begin with this store."""
    return ((store, ()), (store, ()))
