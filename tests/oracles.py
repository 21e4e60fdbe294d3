"""Answers that are worked out anew from `stepped` alone, and values that are changed at one of their places."""

from onlytell.machines import stepped
from tests.helpers import same


class Walk:
    """The steps of a pair of machines, or of one; each step is (whether it is sought, the state reached)."""

    def __init__(self, book, machine):
        self.book, self.machine, self.known = book, machine, {}

    def step(self, state, letter):
        if (state, letter) not in self.known:
            self.known[state, letter] = stepped(self.book, self.machine, state, letter)
        return self.known[state, letter]


def parting(book, one, newer, other):
    """The step of two machines beside each other: sought if they tell different things."""
    walk, other_walk = Walk(book, one), Walk(newer, other)

    def step(pair, letter):
        telling, state = walk.step(pair[0], letter)
        other_telling, other_state = other_walk.step(pair[1], letter)
        return telling != other_telling, (state, other_state)

    return step


def harming(book, memory):
    """The step of a show: sought if the base changes."""
    walk = Walk(book, ("show", memory))

    def step(state, letter):
        later = walk.step(state, letter)[1]
        return later[0] != state[0], later

    return step


def first_pairs(book):
    return [((store, ()), (store, ())) for store in book.stores]


def first_states(book):
    return [(store, ()) for store in book.stores]


def explored(firsts, letters, step):
    """(length of a shortest row with a sought step at its end, None), or (None, the table of all states)."""
    seen, level, length = set(firsts), set(firsts), 0
    while level:
        length += 1
        steps = [step(state, letter) for state in level for letter in letters]
        if any(is_sought for is_sought, _ in steps):
            return length, None
        level = {later for _, later in steps} - seen
        seen |= level
    return None, tuple(sorted(seen))


def seeks(first, row, step):
    """For each letter of the row, whether its step is sought."""
    found, state = [], first
    for letter in row:
        is_sought, state = step(state, letter)
        found.append(is_sought)
    return found


def is_right_row(book, value, word, first, step, only_last):
    """Whether the value is (word, store, row) with a sought step at its end; only_last: and with none ahead."""
    if type(value) is not tuple or len(value) != 3 or not same(value[0], word) or type(value[2]) is not tuple:
        return False
    if not any(same(value[1], store) for store in book.stores) or len(value[2]) == 0:
        return False
    if not all(any(same(letter, right) for right in book.letters) for letter in value[2]):
        return False
    found = seeks(first(value[1]), value[2], step)
    return found[-1] and not (only_last and any(found[:-1]))


def changed(value):
    """The value with one change, at each of its places: kinds, words, members more, less, twice, exchanged."""
    yield from other_kinds(value)
    if isinstance(value, tuple):
        yield list(value)
        yield value + (None,)
        yield (value,)
        yield dict(enumerate(value))
        for place in range(len(value)):
            yield value[:place] + value[place + 1:]
            yield value[:place + 1] + value[place:]
            yield value[:place] + value[place + 1:place + 2] + value[place:place + 1] + value[place + 2:]
            for part in changed(value[place]):
                yield value[:place] + (part,) + value[place + 1:]


def other_kinds(value):
    yield from (None, (), "", "no")
    if isinstance(value, int):
        yield from (bool(value) if value in (0, 1) else True, str(value), value + 5, -2, (value,), [value])
    if isinstance(value, str):
        yield from (value.upper(), value + " ", (value,), [value], 0)

