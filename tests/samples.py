"""Books of many kinds, for tests of what holds for every book, and values that are no stores, rows or memories."""

from itertools import product

from onlytell.books import Book
from tests.helpers import ANY_VALUES, lined, nested, same

FLIP = lined("key a 2", "key b 2", "deed flip 1", "  add a 1", "  add b 1", "deed look 1", "  if a = b", "    say 1")
PAIR = lined("key a 2", "key b 2", "deed put 1", "  set a 1", "  if a = 1", "    set b 1", "deed look 1", "  say b")
SLY = lined("key a 2", "deed put 1 blind", "  set a 1", "deed look 1", "  say a")
BOTH = lined("key a 2", "key b 2", "deed one 1", "  if a = 0", "    set b 1", "deed two 1", "  if b = 0", "    set a 1")

REFUSING = lined(
    "key a 3", "key b 3",
    "deed top 3", "  set a 1", "  if it = 0", "    ask mid 0", "  if it = 1", "    try mid 0", "      set b a",
    "  add a 1",
    "deed mid 1", "  set a 2", "  set b 2", "  ask low 0", "  say 5",
    "deed low 1", "  set b 0", "  refuse no",
)
GONE = lined(
    "may n 2", "key a 2", "may m 3", "group g m n", "group h a m n",
    "deed put 3", "  set m it", "  if it = n", "    refuse same",
    "deed off 1", "  each g", "    drop here",
    "deed grow 1", "  each h", "    if has here", "      add here 1", "  drop n",
    "deed look 1", "  if has m", "    say m + a", "  else", "    say n",
)
WAKING = lined(
    "key a 3", "may m 2", "key b 2",
    "deed put 3", "  set a it", "  set m a",
    "deed one 2 when a", "  add b it", "  try two it + 1", "    set m 0",
    "deed two 2 when m", "  say it + b", "  if it = b", "    refuse no",
)
BLIND_WITHIN = lined(
    "key a 3", "key b 2", "may m 2",
    "deed top 2", "  set a it + 1", "  ask sly it", "  say a + b", "  try low 0", "    set m b",
    "deed sly 2 blind", "  add b 1", "  try low it", "    say 7", "  say a",
    "deed low 1 when b", "  say a", "  set a 2", "  if has m", "    refuse low",
)
BLIND_WOKEN = lined(
    "key a 2", "key b 2", "may m 2",
    "deed put 2", "  set a it", "  drop m",
    "deed sly 1 blind when a", "  add b 1", "  set m b", "  if b = 0", "    refuse even",
    "deed low 2 when m", "  say it + a", "  add b it",
)

TEXTS = (FLIP, PAIR, SLY, BOTH, REFUSING, GONE, WAKING, BLIND_WITHIN, BLIND_WOKEN)
SAMPLES = tuple(Book(text) for text in TEXTS)


def memories_of(book):
    """All memories of a book."""
    names = sorted(row[0] for row in book.key_rows)
    for hows in product(("", "deed", "row"), repeat=len(names)):
        yield tuple((name, how) for name, how in zip(names, hows) if how)


def machines_of(book):
    """All machines of a book."""
    return [("run",)] + [("show", memory) for memory in memories_of(book)]


def all_kept(book):
    """The memory with all keys of a book, through the row."""
    return tuple((name, "row") for name in sorted(row[0] for row in book.key_rows))


def is_without_blind_deeds(book):
    return not any(row[2] for row in book.deeds)


def is_refused(telling, letter):
    """Whether the deed of the letter itself is refused; no deed can try itself."""
    return len(telling) == 1 and telling[0][0] == "refused" and telling[0][1][0] == letter[0]


# None of these is a store of a book with the keys a, m (which may be gone) and b of helpers.three_keys.
WRONG_STORES = tuple(value for value in ANY_VALUES) + (
    (0, 0), (0, 0, 0, 0), (2, 0, 0), (0, 3, 0), (0, 0, 3), (-1, 0, 0), (0, 0, -1), (0, -2, 0), (True, 0, 0),
    (0, True, 0), (0, 0, False), (0, None, 0), (0, "0", 0), (0, (0,), 0), [0, 0, 0], "000", ((0, 0, 0), ()),
    {0: 0, 1: 0, 2: 0}, nested(30),
)

# Rows of that book (its letters are put 0, put 1 and look 0), with the number of the first member that is no letter.
WRONG_ROWS = tuple((value, -1) for value in ANY_VALUES if not isinstance(value, tuple)) + (
    ([("put", 0)], -1), ("put", -1), ({("put", 0): 1}, -1), ("", -1),
    (("put", 0), 0), (("put",), 0), ((("put", 0), "put"), 1), ((("put", 2),), 0), ((("put", -1),), 0),
    ((("put", True),), 0), ((("put", False),), 0), ((("put", None),), 0), ((("put", "0"),), 0), ((("look", 1),), 0),
    ((("look", 0), ("put", 0), ("more", 0)), 2), ((("put", 0), ("put",)), 1), ((("put", 0, 0),), 0), (((),), 0),
    ((["put", 0],), 0), ((("put", 0), ["put", 0], ("more", 0)), 1), (((0, "put"),), 0), ((("put", (0,)),), 0),
    ((("a", 0),), 0), ((("Put", 0),), 0), (((("put",), 0),), 0), ((None, ("put", 0)), 0), ((("put", 10 ** 30),), 0),
    ((("put", 0),) * 40 + ("put",), 40), (({"put": 0},), 0), ((nested(30),), 0), (((("put", 0),),), 0),
)

# None of these is a memory of that book.
WRONG_MEMORIES = tuple(value for value in ANY_VALUES if value != () or isinstance(value, list)) + (
    ("a", "row"), (("a",),), (("a", "row", "row"),), (("a", "run"),), (("a", "Row"),), (("a", ""),), (("a", None),),
    (("a", True),), (("a", 1),), (("c", "row"),), (("put", "row"),), (("", "row"),), ((None, "row"),), ((0, "row"),),
    (("row", "a"),), (["a", "row"],), [("a", "row")], (("a", ["row"]),), ((("a",), "row"),), {"a": "row"},
    (("b", "row"), ("a", "row")), (("m", "deed"), ("b", "row")), (("a", "deed"), ("a", "row")),
    (("a", "row"), ("a", "row")), (("a", "row"), ("a", "deed")), (("a", "row"), ("b", "row"), ("b", "row")),
    (("a", "row"), "b"), (("a", "row"), None), (("a", "row"), ("m", "deed"), ("z", "row")), (("here", "row"),),
    nested(30),
)

# None of these is a machine of that book.
WRONG_MACHINES = tuple(ANY_VALUES) + (
    "run", "show", ("Run",), ("run", ()), ("run", "run"), ("run", None), ("show",), ("show", (), ()), ["run"],
    ["show", ()], ("show", []), ("show", None), ("show", {}), ("show", "a"), (("run",),), (("show", ()),), (None,),
    (True,), (["run"],), ("", ()), ("shows", ()), {"run": ()}, nested(30),
) + tuple(("show", value) for value in WRONG_MEMORIES)

# None of these is a letter of that book.
WRONG_LETTERS = tuple(ANY_VALUES) + (
    ("put",), ("put", 2), ("put", -1), ("put", True), ("put", False), ("put", None), ("put", "0"), ("put", 0, 0),
    ["put", 0], ("look", 1), ("more", 0), ("a", 0), ("Put", 0), (0, "put"), (("put",), 0), (None, 0), ("put", (0,)),
    ("put", [0]), (("put", 0),), "put 0", {"put": 0}, {0: "put", 1: 0}, ("put", 10 ** 30), ("", 0), nested(30),
)

# None of these is an ascending tuple of letters of that book; their sequence is look 0, put 0, put 1.
WRONG_LETTER_SETS = tuple(value for value in ANY_VALUES if value != () or isinstance(value, list)) + (
    (("put", 0), ("look", 0)), (("put", 1), ("put", 0)), (("put", 0), ("put", 0)),
    (("look", 0), ("put", 1), ("put", 0)),
    (("look", 0), ("put", 0), ("put", 0)), [("put", 0)], ("put", 0), {("put", 0): 1}, (["put", 0],), (("put", 0), None),
    (("put", True),), (("put", False),), (("put", 2),), (("put", -1),), (("put", "0"),), (("put",),), (("put", 0, 0),),
    (("more", 0),), (("a", 0),), (("look", 0), ("look", 1)), ((0, "put"),), (((("put", 0),),),), "put 0", nested(30),
)

# None of these is an ascending tuple of keys of that book.
WRONG_KEYS = tuple(value for value in ANY_VALUES if value not in ((), ("a",)) or isinstance(value, list)) + (
    "a", ["a"], ("b", "a"), ("a", "a"), ("m", "b"), ("a", "b", "b"), ("a", "m", "b"), ("c",), ("a", "c"), ("put",),
    ("a", None), (True,), ("",), ("A",), (("a",),), (["a"],), {"a": 1}, ("here",), (("a", 2, False),), ("ab",),
    nested(30),
)

# None of these is a wish for worths of keys of that book.
WRONG_WISHES = tuple(value for value in ANY_VALUES if value != () or isinstance(value, list)) + (
    ("a", 0), (("a",),), (("a", 0, 0),), (["a", 0],), [("a", 0)], {"a": 0}, (("a", 2),), (("a", -1),), (("m", -2),),
    (("m", 3),), (("b", 3),), (("b", -1),), (("a", True),), (("a", False),), (("m", None),), (("a", "0"),),
    (("a", (0,)),),
    (("b", 0), ("a", 0)), (("a", 0), ("a", 1)), (("a", 0), ("a", 0)), (("a", 1), ("a", 0)),
    (("a", 0), ("m", 0), ("b", 0)),
    (("c", 0),), (("put", 0),), (("", 0),), ((0, "a"),), ((None, 0),), ((("a",), 0),), (("a", 0), None),
    (("a", 10 ** 30),),
    nested(30),
)


def wrong_prices(many):
    """Values that are no prices for so many things."""
    yield from [value for value in ANY_VALUES if value != () or isinstance(value, list) or many > 0]
    right = (1, 9, 5, 2, 3, 4, 6, 7, 8, 1)
    yield from (right[:many + 1], list(right[:many]), nested(30), "1" * many, dict(enumerate(right[:many])))
    if many > 0:
        yield from (right[:many - 1], 1)
    for place in range(many):
        for wrong in (0, 10, -1, True, False, None, "1", (1,), [1], 10 ** 30):
            yield right[:place] + (wrong,) + right[place + 1:many]


def small_rows(book, most=2):
    """All rows of the book of at most so many letters."""
    for length in range(most + 1):
        yield from product(book.letters, repeat=length)


def is_letters(book, value):
    """Whether the value is a tuple of letters of the book, also by its kinds."""
    return type(value) is tuple and all(any(same(letter, right) for right in book.letters) for letter in value)


def is_one_of(values, value):
    """Whether the value is one of these, also by its kinds."""
    return any(same(value, right) for right in values)


def cycle(key):
    """Statements by which a key comes to have each of its three worths by turns, and then is gone."""
    return (f"  if has {key}", f"    if {key} = 2", f"      drop {key}", "    else", f"      add {key} 1", "  else",
            f"    set {key} 0")


# With all keys remembered, a show from the store beside it reaches just 1500 states, and just 1501.
WIDE_1500 = (Book(lined(
    "may a 3", "may b 3", "key c 3", "deed p 1", *cycle("a"), "deed q 1", *cycle("b"), "deed r 1", "  add c 1",
    "deed w 3 blind", "  set a c", "  if c = 1", "    set b c", "  if has b", "    set c it", "  else", "    set a c",
)), (0, 0, 0))
WIDE_1501 = (Book(lined(
    "may a 3", "may b 3", "key c 3", "deed p 1", "  ask g 0", *cycle("a"), "deed q 1", "  ask g 0", *cycle("b"),
    "deed r 1", "  ask g 0", "  add c 1", "deed w 3 blind", "  add c 1", "  if c = 1", "    set b c", "  else",
    "    set a it", "deed g 1 blind", "  if has a", "    end", "  if c = 1", "    refuse no",
)), (-1, -1, 1))

# Nothing but the last letter of r gives c the worth 2; without it, a show that remembers all keys reaches 2250 states.
BLIND_30 = (
    "deed w 2 blind", "  if has b", "    add b 2", "  set c it", "  if has a", "    add a 2", "deed x 1 blind",
    "  set b 0",
    "  if c != 1", "    if has a", "      drop a",
)
WIDE_GOAL = (Book(lined(
    "may a 3", "may b 3", "key c 3", "deed p 1", *cycle("a"), "deed q 1", *cycle("b"), "deed r 3", "  set c it",
    *BLIND_30,
)), (0, -1, 0))
# Here c never has the worth 2, and just 1500 states can be reached.
WIDE_NEVER = (Book(lined(
    "may a 3", "may b 3", "key c 3", "deed p 1", *cycle("a"), "deed q 1", *cycle("b"), "deed r 1", "  set c 0",
    *BLIND_30,
)), (0, -1, 0))
