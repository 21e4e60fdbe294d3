"""Stores that can be changed, key by key or by a telling."""

from onlytell.errors import BadStore, BadWorth, Gone, Lasting, NoKey, OtherStore
from onlytell.forms import GONE, is_store, is_worth, place_of
from onlytell.tellings import Telling, put_behind


class Store:
    """The present worths of the keys of a book; none of its methods wakes a deed."""

    def __init__(self, book, worths):
        if not is_store(book, worths):
            raise BadStore(worths)
        self.book = book
        self.worths = worths

    def __getitem__(self, at):
        place = self._place(at)
        if self.worths[place] == GONE:
            raise Gone(at)
        return self.worths[place]

    # Without this, a loop would ask for the keys 0, 1, 2 and end in NoKey.
    def __iter__(self):
        raise TypeError("a Store is not iterated over; its worths are")

    def __setitem__(self, at, worth):
        place = self._place(at)
        if not is_worth(self.book.key_rows[place], worth):
            raise BadWorth(worth)
        self._put(place, worth)

    def __contains__(self, x):
        place = place_of(self.book, x)
        return place is not None and self.worths[place] != GONE

    def __len__(self):
        return len([worth for worth in self.worths if worth != GONE])

    def __eq__(self, other):
        if not isinstance(other, Store):
            return False
        return self.book.key_rows == other.book.key_rows and self.worths == other.worths

    def __ior__(self, other):
        if not isinstance(other, Telling):
            return NotImplemented
        if other.book.key_rows != self.book.key_rows:
            raise OtherStore(other)
        self.worths = put_behind(self.book, self.worths, other.effects)
        return self

    def drop(self, key):
        """Let the key be gone; NoKey, Lasting, Gone."""
        place = self._place(key)
        if not self.book.key_rows[place][2]:
            raise Lasting(key)
        if self.worths[place] == GONE:
            raise Gone(key)
        self._put(place, GONE)

    def _place(self, key):
        place = place_of(self.book, key)
        if place is None:
            raise NoKey(key)
        return place

    def _put(self, place, worth):
        self.worths = self.worths[:place] + (worth,) + self.worths[place + 1:]
