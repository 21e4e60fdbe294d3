"""The forms that values have, asked of any value; a value of another kind is refused, not converted."""

# How a store tells that a key is gone.
GONE = -1

# How a show remembers a key: to the end of the letter, or through the whole row.
HOWS = ("deed", "row")

# The highest price of anything that has one.
DEAREST = 9


def is_integer(value):
    """Whether the value is an integer; True and False are none."""
    return isinstance(value, int) and not isinstance(value, bool)


def is_same(right, value):
    """Whether the value is this right one, which consists of integers, strings and tuples, also by its kinds."""
    if isinstance(right, tuple):
        if not isinstance(value, tuple) or len(value) != len(right):
            return False
        return all([is_same(part, other) for part, other in zip(right, value)])
    if is_integer(right):
        return is_integer(value) and value == right
    return value == right


def is_name(value):
    """Whether the value is a string of 1 to 8 letters a to z."""
    if not isinstance(value, str) or not 1 <= len(value) <= 8:
        return False
    return all(["a" <= sign <= "z" for sign in value])


def place_of(book, value):
    """The place of the key that has this name in the sequence of the keys; None for any other value."""
    for place, row in enumerate(book.key_rows):
        if row[0] == value:
            return place
    return None


def is_worth(key_row, value):
    """Whether the key can be there with this worth."""
    return is_integer(value) and 0 <= value < key_row[1]


def is_worth_or_gone(key_row, value):
    """Whether a store can have this at the place of the key."""
    lowest = GONE if key_row[2] else 0
    return is_integer(value) and lowest <= value < key_row[1]


def is_store(book, value):
    """Whether the value is a store of this book, written as a tuple."""
    if not isinstance(value, tuple) or len(value) != len(book.key_rows):
        return False
    return all([is_worth_or_gone(row, worth) for row, worth in zip(book.key_rows, value)])


def is_ascending(values):
    """Whether each value comes ahead of the next one, as Python sorts."""
    return all([one < other for one, other in zip(values, values[1:])])


def is_letter(book, value):
    """Whether the value is a letter of this book."""
    if not isinstance(value, tuple) or len(value) != 2:
        return False
    return is_integer(value[1]) and value in book.letters


def is_row(book, value):
    """Whether the value is a row of letters of this book."""
    return isinstance(value, tuple) and all([is_letter(book, letter) for letter in value])


def is_letters(book, value):
    """Whether the value is an ascending tuple of letters of this book."""
    return is_row(book, value) and is_ascending(value)


def is_keys(book, value):
    """Whether the value is an ascending tuple of keys of this book."""
    if not isinstance(value, tuple) or not all([place_of(book, key) is not None for key in value]):
        return False
    return is_ascending(value)


def is_input(size, value):
    """Whether a deed of this size takes the value as its input."""
    return is_integer(value) and 0 <= value < size


def is_price(value):
    """Whether something can have this price."""
    return is_integer(value) and 1 <= value <= DEAREST


def is_prices(value, many):
    """Whether the value is a tuple of so many prices."""
    return isinstance(value, tuple) and len(value) == many and all([is_price(price) for price in value])


def is_memory(book, value):
    """Whether the value tells keys of this book that a show remembers."""
    if not isinstance(value, tuple) or not all([is_kept(book, part) for part in value]):
        return False
    return is_ascending([part[0] for part in value])


def is_kept(book, value):
    """Whether the value is a key of this book, and how it is remembered."""
    if not isinstance(value, tuple) or len(value) != 2:
        return False
    return place_of(book, value[0]) is not None and value[1] in HOWS


def is_machine(book, value):
    """Whether the value is a machine of this book."""
    if not isinstance(value, tuple):
        return False
    if len(value) == 1:
        return value[0] == "run"
    return len(value) == 2 and value[0] == "show" and is_memory(book, value[1])


def is_state(book, machine, value):
    """Whether the value is a state of this machine."""
    if not isinstance(value, tuple) or len(value) != 2:
        return False
    return is_store(book, value[0]) and is_left(book, machine, value[1])


def is_left(book, machine, value):
    """Whether the value is what this machine can remember between two letters."""
    keys = [key for key, how in machine[1] if how == "row"] if machine[0] == "show" else []
    return is_told_of(book, keys, value)


def is_told_of(book, keys, value):
    """Whether the value is an ascending tuple of (key, worth) of some of these keys, no key twice."""
    if not isinstance(value, tuple):
        return False
    for part in value:
        if not isinstance(part, tuple) or len(part) != 2 or part[0] not in keys:
            return False
        if not is_worth_or_gone(book.key_rows[place_of(book, part[0])], part[1]):
            return False
    return is_ascending([part[0] for part in value])
