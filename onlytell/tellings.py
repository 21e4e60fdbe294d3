"""Tellings: what runs told, to be put into a store later, and to be taken back."""

from onlytell.errors import BadStore, BadTelling, NoEffect, OtherBook, Stuck
from onlytell.forms import GONE, is_integer, is_name, is_store, is_worth, place_of


class Telling:
    """The effects that a run of a book told, or could have told by their form."""

    def __init__(self, book, effects):
        if not is_telling(book, effects):
            raise BadTelling(effects)
        self.book = book
        self.effects = effects

    def __getitem__(self, at):
        if not is_integer(at) or not 0 <= at < len(self.effects):
            raise NoEffect(at)
        return self.effects[at]

    # Without this, a loop would ask for item after item until NoEffect.
    def __iter__(self):
        raise TypeError("a Telling is not iterated over; its effects are")

    def __contains__(self, x):
        # The form tells True from 1, which == does not.
        return is_effect(self.book, x) and x in self.effects

    def __len__(self):
        return len(self.effects)

    def __add__(self, other):
        if not isinstance(other, Telling):
            return NotImplemented
        if other.book.key_rows != self.book.key_rows or deed_names(other.book) != deed_names(self.book):
            raise OtherBook(other)
        return Telling(self.book, self.effects + other.effects)

    def __eq__(self, other):
        if not isinstance(other, Telling):
            return False
        return self.book.key_rows == other.book.key_rows and self.effects == other.effects

    def back(self, worths):
        """The Telling that leads to these worths again, put behind this one; BadStore, Stuck."""
        if not is_store(self.book, worths):
            raise BadStore(worths)
        later_worths = put_behind(self.book, worths, self.effects)
        steps = []
        for row, worth, later in zip(self.book.key_rows, worths, later_worths):
            if later != worth:
                steps.append(step_to(row[0], worth))
        return Telling(self.book, tuple(steps))


def is_telling(book, value):
    """Whether the value is a tuple of effects of this book, by their form."""
    return isinstance(value, tuple) and all([is_effect(book, effect) for effect in value])


def is_effect(book, value):
    """Whether the value has the form of an effect of this book."""
    if not isinstance(value, tuple) or len(value) == 0:
        return False
    word, *parts = value
    if word in ("set", "add"):
        return len(parts) == 2 and can_be_there(book, parts[0], parts[1])
    if word == "drop":
        return len(parts) == 1 and can_be_gone(book, parts[0])
    if word == "say":
        return len(parts) == 1 and is_integer(parts[0]) and parts[0] >= 0
    return word == "refused" and len(parts) == 2 and is_road(book, parts[0]) and is_name(parts[1])


def can_be_there(book, key, worth):
    """Whether there is such a key, and this is one of its worths (growths have the same bounds)."""
    place = place_of(book, key)
    return place is not None and is_worth(book.key_rows[place], worth)


def can_be_gone(book, key):
    """Whether there is such a key, and it may be gone."""
    place = place_of(book, key)
    return place is not None and book.key_rows[place][2]


def is_road(book, value):
    """Whether the value is a tuple of one or more names of deeds of the book."""
    if not isinstance(value, tuple) or len(value) == 0:
        return False
    names = deed_names(book)
    return all([name in names for name in value])


def deed_names(book):
    """The names of the deeds, in the sequence of the book."""
    return [deed[0] for deed in book.deeds]


def put_behind(book, worths, effects):
    """The worths behind these effects, which wake no deed; Stuck with the number of one that cannot be done."""
    now = list(worths)
    for number, effect in enumerate(effects):
        if effect[0] in ("set", "add", "drop"):
            place = place_of(book, effect[1])
            if effect[0] != "set" and now[place] == GONE:
                raise Stuck(number)
            now[place] = worth_behind(effect, now[place], book.key_rows[place][1])
    return tuple(now)


def worth_behind(effect, worth, size):
    """The worth, or GONE, that the key of this effect has behind it."""
    if effect[0] == "set":
        return effect[2]
    if effect[0] == "drop":
        return GONE
    return (worth + effect[2]) % size


def step_to(key, worth):
    """The effect that leads the key to this worth, or lets it be gone."""
    if worth == GONE:
        return ("drop", key)
    return ("set", key, worth)
