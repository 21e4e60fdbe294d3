"""The errors of this package, each for one kind of refusal."""


class OnlyError(ValueError):
    """What every error of this package is; it keeps its argument as `value`."""

    def __init__(self, value):
        self.value = value


class BadBook(OnlyError):
    """A line of a book is missing, or cannot stand at its place; the value is its number."""


class Unnamed(OnlyError):
    """A line names a key, group or deed that it cannot name; the value is its number."""


class Upward(OnlyError):
    """A line asks or wakes a deed that does not stand below its own; the value is its number."""


class NoDeed(OnlyError):
    """The value is not the name of a deed."""


class BadDeeds(OnlyError):
    """The value is not an ascending tuple of names of blind deeds."""


class BadStore(OnlyError):
    """The value is not a store of the book."""


class BadRow(OnlyError):
    """A row has a member that is not a letter; the value is its number, or -1 for no row."""


class NoKey(OnlyError):
    """The value is not a key of the book."""


class Gone(OnlyError):
    """The key, which is the value, is gone."""


class BadWorth(OnlyError):
    """The value is not a worth of the key."""


class Lasting(OnlyError):
    """The key, which is the value, cannot be gone."""


class OtherStore(OnlyError):
    """The value belongs to a book with other keys."""


class BadInput(OnlyError):
    """The value is not an input of the deed."""


class BadMemory(OnlyError):
    """The value is not a memory of the book."""


class BadMachine(OnlyError):
    """The value is not a machine of the book."""


class BadState(OnlyError):
    """The value is not a state of the machine."""


class BadLetter(OnlyError):
    """The value is not a letter of the book."""


class Unlike(OnlyError):
    """The book, which is the value, has other keys or letters."""


class TooMany(OnlyError):
    """More states can be reached than the value."""


class BadOffers(OnlyError):
    """The value is not a tuple of offers."""


class BadWish(OnlyError):
    """The value is not the name of a wish."""


class BadPrices(OnlyError):
    """The value is not a tuple of prices."""


class BadLetters(OnlyError):
    """The value is not an ascending tuple of letters."""


class BadRows(OnlyError):
    """The value is not a tuple of rows."""


class BadWishes(OnlyError):
    """The value is not a wish for worths of keys."""


class BadKeys(OnlyError):
    """The value is not an ascending tuple of keys."""


class BadHands(OnlyError):
    """The value is not a tuple of hands."""


class BadSteps(OnlyError):
    """A member is not a step, or cannot come; the value is its number, or -1 for no steps."""


class BadTelling(OnlyError):
    """The value does not have the form of a telling."""


class NoEffect(OnlyError):
    """The value is not the number of an effect."""


class OtherBook(OnlyError):
    """The telling, which is the value, has a book with other keys or deeds."""


class Stuck(OnlyError):
    """An effect cannot be done; the value is its number."""


class BadSwitch(OnlyError):
    """The value is neither True nor False."""


class OtherPreview(OnlyError):
    """The value is not a preview of the same book."""


class Showing(OnlyError):
    """The shop shows, so nothing can be made; the value is None."""


class Spoilt(OnlyError):
    """A letter would tell something else; the value is its number."""


class BadLine(OnlyError):
    """The value is not a line that a desk answers."""
