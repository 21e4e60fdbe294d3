"""The forms that values have, asked of any value; a value of another kind is refused, not converted."""

# How a store tells that a key is gone.
GONE = -1


def is_integer(value):
    """Whether the value is an integer; True and False are none."""
    return isinstance(value, int) and not isinstance(value, bool)


def is_name(value):
    """Whether the value is a string of 1 to 8 letters a to z."""
    if not isinstance(value, str) or not 1 <= len(value) <= 8:
        return False
    return all(["a" <= sign <= "z" for sign in value])


def place_of(book, value):
    """The place of the key that has this name in the sequence of the keys; None for any other value."""
    for place, row in enumerate(book.key_rows):
        if row[0] == value:
            return place
    return None


def is_worth(key_row, value):
    """Whether the key can be there with this worth."""
    return is_integer(value) and 0 <= value < key_row[1]


def is_worth_or_gone(key_row, value):
    """Whether a store can have this at the place of the key."""
    lowest = GONE if key_row[2] else 0
    return is_integer(value) and lowest <= value < key_row[1]


def is_store(book, value):
    """Whether the value is a store of this book, written as a tuple."""
    if not isinstance(value, tuple) or len(value) != len(book.key_rows):
        return False
    return all([is_worth_or_gone(row, worth) for row, worth in zip(book.key_rows, value)])
