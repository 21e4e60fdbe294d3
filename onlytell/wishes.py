"""Cheapest rows to wished worths, and whether a show reads of certain keys just what a run has."""

from onlytell.acting import worths_read
from onlytell.beside import Pair, first_pair
from onlytell.checking import check_machine, check_memory, check_prices, check_store
from onlytell.errors import BadKeys, BadWishes, TooMany
from onlytell.forms import is_ascending, is_integer, is_keys, is_row, is_same, is_state, is_store, is_told_of
from onlytell.searching import MOST_STATES, Steps, is_closed, is_table, row_to, searched


class Way:
    """The ways of a machine from a store to a wish, by letters that have prices.

    BadMachine, BadStore, BadWishes, BadPrices.
    """

    def __init__(self, book, machine, store, wish, prices):
        check_machine(book, machine)
        check_store(book, store)
        check_wishes(book, wish)
        check_prices(len(book.letters), prices)
        self.start = (store, ())
        self._book = book
        self._machine = machine
        self._wish = wish
        self._prices = {letter: price for letter, price in zip(book.letters, prices)}
        self._steps = Steps(book, machine)

    def has_wish(self, state):
        """Whether the state has the wish."""
        worths = worths_read(self._book, state)
        return all([worths[key] == worth for key, worth in self._wish])

    def onward(self, state):
        """(letter, its price, the state behind it) of each letter from this state."""
        return [(letter, price, self._steps.after(state, letter)[1]) for letter, price in self._prices.items()]

    def cheapest(self):
        """What `leads` returns; TooMany."""
        costs = {}
        reached = {}
        # For each cost that is still to come: the states that some row of this price reaches, as `row_to` takes them.
        due = {0: {self.start: None}}
        cost = 0
        while due:
            level = due.pop(cost, {})
            fresh = [state for state in level if state not in reached]
            for state in fresh:
                reached[state] = level[state]
            for state in fresh:
                if self.has_wish(state):
                    return ("row", cost, row_to(reached, state)[1], tuple(sorted(list(costs.items()))))
            for state in fresh:
                costs[state] = cost
                for letter, price, later in self.onward(state):
                    due.setdefault(cost + price, {}).setdefault(later, (state, letter))
            # Whatever comes now costs more than all of these.
            if len(costs) > MOST_STATES:
                raise TooMany(MOST_STATES)
            cost += 1
        return ("never", tuple(sorted(list(costs))))

    def shows_never(self, value):
        """Whether the value is a closed table which has the first state, and no member that has the wish."""
        if not is_table(value, self._is_state) or any([self.has_wish(state) for state in value]):
            return False
        return is_closed(value, [self.start], self._book.letters, self._steps.unsought)

    def shows_row(self, price, row):
        """Whether the second value is a row to the wish, and the first one its price."""
        if not is_row(self._book, row) or not is_same(sum([self._prices[letter] for letter in row]), price):
            return False
        state = self.start
        for letter in row:
            state = self._steps.after(state, letter)[1]
        return self.has_wish(state)

    def shows_costs(self, price, value):
        """Whether the value is a tuple of (state, cost) which shows that no row below this price leads to the wish."""
        if not isinstance(value, tuple) or not all([self._is_cost(price, part) for part in value]):
            return False
        costs = {state: cost for state, cost in value}
        if not is_ascending(value) or len(costs) != len(value):
            return False
        if price > 0 and costs.get(self.start) != 0:
            return False
        return all([self._is_kept_below(price, costs, state) for state in costs])

    def _is_kept_below(self, price, costs, state):
        """Whether this state has not the wish, and whatever it leads to costs no more than it does by this way."""
        if self.has_wish(state):
            return False
        # A state that is not there is taken to cost the price, which is never too much for a way that costs as much.
        return all([costs.get(later, price) <= costs[state] + dearer for _, dearer, later in self.onward(state)])

    def _is_cost(self, price, value):
        """Whether the value is a state of the machine, and a cost below this price."""
        if not isinstance(value, tuple) or len(value) != 2 or not self._is_state(value[0]):
            return False
        return is_integer(value[1]) and 0 <= value[1] < price

    def _is_state(self, value):
        return is_state(self._book, self._machine, value)


class Agreement:
    """Whether a show reads of some keys what the run beside it has; BadMemory, BadKeys."""

    def __init__(self, book, memory, keys):
        check_memory(book, memory)
        check_keys(book, keys)
        self._book = book
        self._agreed = keys
        self._pair = Pair(book, ("run",), book, ("show", memory))
        self.firsts = [first_pair(store) for store in book.stores]

    def parting(self, states, letter):
        """(whether the two disagree behind the letter, the pair of states that is reached)."""
        later = self._pair.parts(states, letter)[1]
        return (self.is_parted(later), later)

    def is_parted(self, states):
        """Whether the two states do not agree."""
        one, other = worths_read(self._book, states[0]), worths_read(self._book, states[1])
        return any([one[key] != other[key] for key in self._agreed])

    def shows_table(self, value):
        """Whether the value is a closed table with all first pairs, in each member of which both agree."""
        if not is_table(value, self._pair.is_member) or any([self.is_parted(states) for states in value]):
            return False
        return is_closed(value, self.firsts, self._book.letters, self.parting)

    def shows_row(self, store, value):
        """Whether the value is a row behind which the two do not agree, if they begin with this store."""
        if not is_row(self._book, value):
            return False
        states = first_pair(store)
        for letter in value:
            states = self._pair.parts(states, letter)[1]
        return self.is_parted(states)


def leads(book, machine, store, wish, prices):
    """("row", price, row, costs) with any cheapest row to the wish, or ("never", table).

    BadMachine, BadStore, BadWishes, BadPrices, TooMany.
    """
    return Way(book, machine, store, wish, prices).cheapest()


def shows_leads(book, machine, store, wish, prices, value):
    """Whether the value is a right answer of leads; BadMachine, BadStore, BadWishes, BadPrices."""
    way = Way(book, machine, store, wish, prices)
    if not isinstance(value, tuple) or len(value) not in (2, 4):
        return False
    if len(value) == 2:
        return value[0] == "never" and way.shows_never(value[1])
    return value[0] == "row" and way.shows_row(value[1], value[2]) and way.shows_costs(value[1], value[3])


def agree(book, memory, keys):
    """("agree", table), or ("parts", store, row) with any shortest row; BadMemory, BadKeys, TooMany."""
    agreement = Agreement(book, memory, keys)
    answer = searched(agreement.firsts, book.letters, agreement.parting)
    if answer[0] == "table":
        return ("agree", answer[1])
    return ("parts", answer[1][0][0], answer[2])


def shows_agree(book, memory, keys, value):
    """Whether the value is a right answer of agree; BadMemory, BadKeys."""
    agreement = Agreement(book, memory, keys)
    if not isinstance(value, tuple) or len(value) not in (2, 3):
        return False
    if len(value) == 2:
        return value[0] == "agree" and agreement.shows_table(value[1])
    return value[0] == "parts" and is_store(book, value[1]) and agreement.shows_row(value[1], value[2])


def check_wishes(book, value):
    """BadWishes if the value is not an ascending tuple of (key, worth) of keys of the book."""
    if not is_told_of(book, [row[0] for row in book.key_rows], value):
        raise BadWishes(value)


def check_keys(book, value):
    """BadKeys if the value is not an ascending tuple of keys of the book."""
    if not is_keys(book, value):
        raise BadKeys(value)
