"""What several tests need: books, values of every kind, and a comparison that tells kinds apart."""

import copy

from onlytell.books import Book

ANY_VALUES = (
    0, 1, -1, 7, 10 ** 30, True, False, None, "", "a", "put", "no such", "0",
    (), (0,), ("a",), ((), ((1, True), None)), [], [0], ["a", ("b", [2])],
    {}, {"a": 1}, {1: {"x": [None, (False,)]}}, ([{"k": (1, [2])}], "deep"),
)


def lined(*lines):
    """The text of these lines."""
    return "\n".join(lines)


def book_of(key_rows, deeds):
    """A Book with these keys and deeds, each of which is over at once."""
    lines = [f"{'may' if may else 'key'} {name} {size}" for name, size, may in key_rows]
    for name, size, is_blind, key in deeds:
        lines += [f"deed {name} {size}{' blind' if is_blind else ''}{f' when {key}' if key else ''}", "  end"]
    return Book(lined(*lines))


KEY_ROWS = (("a", 2, False), ("m", 3, True), ("b", 3, False))
DEEDS = (("put", 2, False, ""), ("look", 1, True, ""))


# Rows of keys, one part of which differs from KEY_ROWS; each has a key m that may be gone.
OTHER_KEY_ROWS = (
    (("a", 2, False), ("m", 3, True)),
    (("m", 3, True), ("a", 2, False), ("b", 3, False)),
    (("a", 2, False), ("m", 3, True), ("b", 3, False), ("c", 2, False)),
    (("x", 2, False), ("m", 3, True), ("b", 3, False)),
    (("a", 3, False), ("m", 3, True), ("b", 3, False)),
    (("a", 2, True), ("m", 3, True), ("b", 3, False)),
)


def three_keys():
    """A book of the keys a (0 to 1), m (0 to 2, may be gone) and b (0 to 2), always a new object."""
    return book_of(KEY_ROWS, DEEDS)


def same(one, other):
    """Whether two values are the same; a list is not a tuple, and True is not 1."""
    if type(one) is not type(other):
        return False
    if isinstance(one, (list, tuple)):
        return len(one) == len(other) and all(same(x, y) for x, y in zip(one, other))
    if isinstance(one, dict):
        return same(list(one.items()), list(other.items()))
    return one == other


def nested(depth):
    """A value that is nested so deep, in tuples, lists and dicts by turns."""
    value = None
    for level in range(depth):
        value = ((value,), [value], {"in": value})[level % 3]
    return value


def check_refused(case, error, value, call, *arguments):
    """That the call raises just this error with this value, and leaves its arguments as they were."""
    before = copy.deepcopy([x for x in arguments if isinstance(x, (list, tuple, dict))])
    with case.assertRaises(error) as caught:
        call(*arguments)
    case.assertIs(type(caught.exception), error)
    case.assertTrue(same(caught.exception.value, value), (caught.exception.value, value))
    after = [x for x in arguments if isinstance(x, (list, tuple, dict))]
    case.assertTrue(same(after, before))


def check_equal(case, one, other, expected):
    """That both are equal, or that they are not, from either side."""
    case.assertIs(one == other, expected)
    case.assertIs(other == one, expected)
    case.assertIs(one != other, not expected)
