"""Books, which define deeds that act on a store, and the deeds of a book."""

from onlytell.acting import step
from onlytell.errors import BadDeeds, BadInput, NoDeed, OtherStore
from onlytell.forms import GONE, is_ascending, is_input
from onlytell.naming import check_directions, check_names
from onlytell.scripts import script_of
from onlytell.stores import Store


class Book:
    """The deeds of a text; BadBook, Unnamed, Upward with the line that is wrong."""

    def __init__(self, text):
        script = script_of(text)
        check_names(script)
        check_directions(script)
        self.text = text
        self.key_rows = tuple(script.key_rows)
        self.groups = tuple([(name, keys) for name, keys in script.members.items()])
        self.deeds = tuple([program.row for program in script.programs.values()])
        self.stores = stores_of(self.key_rows)
        self.letters = tuple([(row[0], number) for row in self.deeds for number in range(row[1])])
        self.script = script

    def __getitem__(self, at):
        for row in self.deeds:
            if row[0] == at:
                return Deed(self, row)
        raise NoDeed(at)

    # Without this, a loop would ask for the deeds 0, 1, 2 and end in NoDeed.
    def __iter__(self):
        raise TypeError("a Book is not iterated over; its deeds are")

    def __contains__(self, x):
        return x in [row[0] for row in self.deeds]

    def __len__(self):
        return len(self.deeds)

    def __eq__(self, other):
        return isinstance(other, Book) and self.text == other.text

    def taught(self, deeds):
        """The Book in which these deeds are not blind; BadDeeds."""
        blind = [row[0] for row in self.deeds if row[2]]
        if not isinstance(deeds, tuple) or not all([name in blind for name in deeds]) or not is_ascending(deeds):
            raise BadDeeds(deeds)
        lines = self.text.split("\n")
        for name in deeds:
            at = self.script.programs[name].line - 1
            lines[at] = without_blind(lines[at])
        return Book("\n".join(lines))


class Deed:
    """A deed of a book, which may be called to run it on a Store; books alone make it."""

    def __init__(self, book, row):
        self.name = row[0]
        self.book = book
        self.size = row[1]
        self.is_blind = row[2]

    def __call__(self, store, it=0):
        if not isinstance(store, Store) or store.book.key_rows != self.book.key_rows:
            raise OtherStore(store)
        if not is_input(self.size, it):
            raise BadInput(it)
        telling, state = step(self.book, ("run",), (store.worths, ()), (self.name, it))
        store.worths = state[0]
        return telling

    def __eq__(self, other):
        return isinstance(other, Deed) and self.book == other.book and self.name == other.name


def stores_of(key_rows):
    """All stores, ascending."""
    stores = [()]
    for _, size, may_be_gone in key_rows:
        lowest = GONE if may_be_gone else 0
        stores = [store + (worth,) for store in stores for worth in range(lowest, size)]
    return tuple(stores)


def without_blind(line):
    """The line of a blind deed without this word, which stands behind the name and the size."""
    words = line.split(" ")
    return " ".join(words[:3] + words[4:])
