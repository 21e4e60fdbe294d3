"""Point 16, the first half: cheapest rows to a wish."""

import unittest
from itertools import combinations

from onlytell.books import Book
from onlytell.errors import BadMachine, BadPrices, BadStore, BadWishes, TooMany
from onlytell.running import ran
from onlytell.showing import shown
from onlytell.wishes import leads, shows_leads
from tests.helpers import ANY_VALUES, check_refused, lined, nested, same, three_keys
from tests.oracles import Walk, changed
from tests.samples import (
    FLIP, PAIR, SAMPLES, SLY, WIDE_GOAL, WIDE_NEVER, WRONG_MACHINES, WRONG_STORES, WRONG_WISHES, all_kept, is_letters,
    is_one_of, machines_of, wrong_prices,
)

RUN = ("run",)
PUT, LOOK = ("put", 0), ("look", 0)

# Two ways from 0 to 2: two steps of 1, or one jump.
STEPS = lined("key a 3", "key b 2", "deed grow 1", "  if a != 2", "    add a 1", "deed jump 1", "  if a = 0",
              "    set a 2",
              "deed turn 1", "  add b 1")


def read_in(book, state):
    """What a deed that is not blind reads of each key."""
    return {**{row[0]: worth for row, worth in zip(book.key_rows, state[0])}, **dict(state[1])}


def has(book, state, wish):
    return all(read_in(book, state)[key] == worth for key, worth in wish)


def all_costs(book, machine, store, prices):
    """The least cost of each state, worked out by trying all letters until nothing becomes cheaper."""
    walk, costs = Walk(book, machine), {(store, ()): 0}
    level = list(costs)
    while level:
        further = {}
        for state in level:
            for letter, price in zip(book.letters, prices):
                later = walk.step(state, letter)[1]
                if costs.get(later, 10 ** 9) > costs[state] + price:
                    costs[later] = costs[state] + price
                    further[later] = True
        level = list(further)
    return costs


def behind(book, machine, store, row):
    """The state behind a row."""
    if machine == RUN:
        return ran(book, store, row)[1], ()
    return shown(book, store, machine[1], row)[1:]


def price_of(book, prices, row):
    return sum(dict(zip(book.letters, prices))[letter] for letter in row)


def is_state(book, machine, value):
    """Whether the value is a state of the machine."""
    if type(value) is not tuple or len(value) != 2 or not is_one_of(book.stores, value[0]):
        return False
    if type(value[1]) is not tuple or (machine == RUN and value[1] != ()):
        return False
    rows = {row[0]: row for row in book.key_rows}
    kept = [key for key, how in machine[1] if how == "row"] if machine != RUN else []
    names = []
    for part in value[1]:
        if type(part) is not tuple or len(part) != 2 or type(part[0]) is not str or part[0] not in kept:
            return False
        names.append(part[0])
        if type(part[1]) is not int or not (-1 if rows[part[0]][2] else 0) <= part[1] < rows[part[0]][1]:
            return False
    return names == sorted(set(names))


def is_right(book, machine, store, wish, prices, value):
    """Whether the value is a right answer, as the document says it."""
    walk = Walk(book, machine)
    first = (store, ())
    if type(value) is not tuple or len(value) < 2:
        return False
    if same(value[0], "never") and len(value) == 2:
        table = value[1]
        if type(table) is not tuple or not all(is_state(book, machine, state) for state in table):
            return False
        if list(table) != sorted(set(table)) or first not in table or any(has(book, state, wish) for state in table):
            return False
        return {walk.step(state, letter)[1] for state in table for letter in book.letters} <= set(table)
    if not same(value[0], "row") or len(value) != 4 or type(value[1]) is not int or not is_letters(book, value[2]):
        return False
    if price_of(book, prices, value[2]) != value[1] or type(value[3]) is not tuple:
        return False
    if not has(book, behind(book, machine, store, value[2]), wish):
        return False
    for member in value[3]:
        if type(member) is not tuple or len(member) != 2 or not is_state(book, machine, member[0]):
            return False
        if type(member[1]) is not int or not 0 <= member[1] < value[1] or has(book, member[0], wish):
            return False
    costs = dict(value[3])
    if list(value[3]) != sorted(value[3]) or len(costs) != len(value[3]):
        return False
    if value[1] > 0 and costs.get(first) != 0:
        return False
    for state, cost in costs.items():
        for letter, price in zip(book.letters, prices):
            if cost + price < value[1] and costs.get(walk.step(state, letter)[1], 10 ** 9) > cost + price:
                return False
    return True


def wishes_of(book):
    """Wishes for each worth of each key, for each store, and for none."""
    names = sorted(row[0] for row in book.key_rows)
    yield ()
    for name, size, may in book.key_rows:
        yield from (((name, worth),) for worth in range(-1 if may else 0, size))
    places = {row[0]: place for place, row in enumerate(book.key_rows)}
    yield from (tuple((name, store[places[name]]) for name in names) for store in book.stores[::3])


class Leads(unittest.TestCase):
    def check_leads(self, book, machine, store, wish, prices):
        """That the answer is one that `stepped` gives, and that it is shown; returns its word, or the price."""
        answer = leads(book, machine, store, wish, prices)
        costs = all_costs(book, machine, store, prices)
        found = [cost for state, cost in costs.items() if has(book, state, wish)]
        with self.subTest(book=book.text, machine=machine, store=store, wish=wish, prices=prices):
            if not found:
                self.assertTrue(same(answer, ("never", tuple(sorted(costs)))), answer)
            else:
                below = tuple(sorted((state, cost) for state, cost in costs.items() if cost < min(found)))
                self.assertTrue(same(answer[:2], ("row", min(found))), answer)
                self.assertTrue(same(answer[3:], (below,)), answer)
                self.assertTrue(is_right(book, machine, store, wish, prices, answer))
            self.assertIs(shows_leads(book, machine, store, wish, prices, answer), True)
            self.assertTrue(same(leads(Book(book.text), machine, store, wish, prices), answer))
        return min(found) if found else "never"

    def test_each_book(self):
        words = []
        for book in SAMPLES + (Book(STEPS),):
            for machine in machines_of(book)[::4] + [("show", all_kept(book))]:
                for wish in wishes_of(book):
                    for prices in ((1,) * 8, (3, 1, 9, 2, 5, 4, 1, 7)):
                        store = book.stores[(len(wish) * 5 + sum(worth for _, worth in wish)) % len(book.stores)]
                        words.append(self.check_leads(book, machine, store, wish, prices[:len(book.letters)]))
        self.assertGreater(min(words.count("never"), words.count(0), words.count(1), words.count(2)), 10)

    def test_the_empty_wish_and_a_wish_that_the_first_state_has(self):
        for book in SAMPLES:
            for machine in machines_of(book)[:3]:
                for store in book.stores[::4]:
                    own = tuple(sorted((row[0], worth) for row, worth in zip(book.key_rows, store)))
                    for wish in ((), own, own[:1], own[1:]):
                        answer = leads(book, machine, store, wish, (9,) * len(book.letters))
                        self.assertTrue(same(answer, ("row", 0, (), ())))

    def test_a_wish_that_no_state_has(self):
        book = Book(FLIP)
        answer = leads(book, RUN, (0, 0), (("a", 1), ("b", 0)), (2, 1))
        self.assertTrue(same(answer, ("never", (((0, 0), ()), ((1, 1), ())))))
        answer = leads(book, ("show", (("a", "row"),)), (0, 0), (("b", 1),), (2, 1))
        self.assertTrue(same(answer, ("never", (((0, 0), ()), ((0, 0), (("a", 0),)), ((0, 0), (("a", 1),))))))

    def test_a_wish_that_a_show_has_by_what_it_remembers(self):
        book, wish = Book(FLIP), (("a", 1), ("b", 0))
        self.assertEqual(leads(book, RUN, (0, 0), wish, (2, 1))[0], "never")
        self.assertTrue(same(leads(book, ("show", (("a", "row"),)), (0, 0), wish, (2, 1)),
                             ("row", 2, (("flip", 0),), ((((0, 0), ()), 0),))))
        self.assertEqual(leads(book, ("show", (("a", "deed"),)), (0, 0), wish, (2, 1))[0], "never")
        # What is remembered hides what the base has.
        book = Book(lined("key a 2", "deed put 1", "  set a 1", "deed sly 1 blind", "  set a 0"))
        machine = ("show", (("a", "row"),))
        self.assertEqual(leads(book, machine, (1,), (("a", 0),), (1, 5))[:3], ("row", 5, (("sly", 0),)))
        self.assertEqual(leads(book, machine, (0,), (("a", 1),), (1, 5))[:3], ("row", 1, (PUT,)))

    def test_a_wish_for_a_key_that_is_gone(self):
        book = Book(lined("may m 2", "deed off 1", "  drop m", "deed on 2", "  set m it"))
        for machine in (RUN, ("show", (("m", "row"),))):
            self.assertEqual(leads(book, machine, (1,), (("m", -1),), (3, 1, 1))[:3], ("row", 3, (("off", 0),)))
            self.assertEqual(leads(book, machine, (-1,), (("m", -1),), (3, 1, 1))[:3], ("row", 0, ()))
            self.assertEqual(leads(book, machine, (-1,), (("m", 0),), (3, 2, 1))[:3], ("row", 2, (("on", 0),)))
        self.assertEqual(leads(book, ("show", ()), (1,), (("m", -1),), (3, 1, 1))[0], "never")

    def test_the_cheaper_row_and_not_the_shorter_one(self):
        book, wish = Book(STEPS), (("a", 2),)
        grow, jump = ("grow", 0), ("jump", 0)
        answer = leads(book, RUN, (0, 0), wish, (1, 3, 9))
        self.assertTrue(same(answer, ("row", 2, (grow, grow), ((((0, 0), ()), 0), (((1, 0), ()), 1)))))
        self.assertEqual(leads(book, RUN, (0, 0), wish, (2, 3, 9))[:3], ("row", 3, (jump,)))
        # Two rows of the same price.
        price, row = leads(book, RUN, (0, 0), wish, (2, 4, 9))[1:3]
        self.assertEqual(price, 4)
        self.assertIn(row, ((grow, grow), (jump,)))
        for other in ((grow, grow), (jump,)):
            costs = ((((0, 0), ()), 0), (((1, 0), ()), 2))
            self.assertIs(shows_leads(book, RUN, (0, 0), wish, (2, 4, 9), ("row", 4, other, costs)), True)

    def test_the_costs_are_those_of_all_states_that_cost_less(self):
        book = Book(STEPS)
        # The state with b alone costs just as much as the wish, and is not there.
        answer = leads(book, RUN, (0, 0), (("a", 2),), (2, 9, 4))
        self.assertEqual(answer[3], ((((0, 0), ()), 0), (((1, 0), ()), 2)))
        answer = leads(book, RUN, (0, 0), (("a", 2),), (2, 9, 3))
        self.assertEqual(answer[3], ((((0, 0), ()), 0), (((0, 1), ()), 3), (((1, 0), ()), 2)))
        answer = leads(book, RUN, (0, 0), (("a", 2),), (4, 9, 1))
        self.assertEqual(dict(answer[3]), {((0, 0), ()): 0, ((0, 1), ()): 1, ((1, 0), ()): 4, ((1, 1), ()): 5})

    def test_a_cost_is_the_least_one(self):
        book = Book(lined("key a 3", "key b 2", "deed jump 1", "  set a 2", "deed one 1", "  if a = 0", "    set a 1",
                          "deed two 1", "  if a = 1", "    set a 2", "deed goal 1", "  if a = 2", "    set b 1"))
        answer = leads(book, RUN, (0, 0), (("b", 1),), (9, 2, 3, 9))
        self.assertEqual(answer[:2], ("row", 14))
        self.assertEqual(answer[2], (("one", 0), ("two", 0), ("goal", 0)))
        self.assertEqual(dict(answer[3]), {((0, 0), ()): 0, ((1, 0), ()): 2, ((2, 0), ()): 5})

    def test_prices_belong_to_the_letters_in_the_sequence_of_the_book(self):
        book = Book(lined("key a 3", "deed z 2", "  set a it", "deed b 1", "  set a 2"))
        for number, prices in enumerate(((1, 5, 9), (9, 1, 5), (5, 9, 1))):
            row = leads(book, RUN, ((number + 1) % 3,), (("a", number),), prices)[1:3]
            self.assertEqual(row, (1, ((("z", 0), ("z", 1), ("b", 0))[number],)))

    def test_by_the_names_of_the_arguments(self):
        book = Book(FLIP)
        answer = leads(prices=(2, 1), wish=(("a", 1),), store=(0, 0), machine=RUN, book=book)
        self.assertEqual(answer[:3], ("row", 2, (("flip", 0),)))
        self.assertIs(shows_leads(value=answer, prices=(2, 1), wish=(("a", 1),), store=(0, 0), machine=RUN, book=book),
                      True)

    def test_errors_in_their_sequence(self):
        book = three_keys()
        for call, more in ((leads, ()), (shows_leads, (None,))):
            for value in WRONG_MACHINES:
                check_refused(self, BadMachine, value, call, book, value, None, None, None, *more)
            for value in WRONG_STORES:
                check_refused(self, BadStore, value, call, book, RUN, value, None, None, *more)
            for value in WRONG_WISHES:
                check_refused(self, BadWishes, value, call, book, RUN, (0, 0, 0), value, None, *more)
            for value in wrong_prices(3):
                check_refused(self, BadPrices, value, call, book, RUN, (0, 0, 0), (), value, *more)

    def test_right_wishes_and_prices(self):
        book = three_keys()
        for wish in ((), (("a", 0),), (("m", -1),), (("a", 1), ("b", 2), ("m", 2)), (("b", 0), ("m", 0))):
            for prices in ((1, 1, 1), (9, 9, 9), (1, 5, 9)):
                self.assertIn(leads(book, RUN, (0, 0, 0), wish, prices)[0], ("row", "never"))


class ManyStates(unittest.TestCase):
    def below(self, book, store, prices, wish):
        """How many states cost less than the wish, and the price of the wish."""
        costs = all_costs(book, ("show", all_kept(book)), store, prices)
        price = min(cost for state, cost in costs.items() if has(book, state, wish))
        return len([cost for cost in costs.values() if cost < price]), price

    def test_just_1500_states_that_cost_less(self):
        book, store = WIDE_GOAL
        machine = ("show", all_kept(book))
        # Of the states that cost as much as the wish, some hundred more can be reached.
        for prices, wish in (((1, 1, 1, 3, 7, 2, 1, 1), (("a", 1), ("b", 0), ("c", 2))),
                             ((1, 3, 2, 1, 9, 3, 2, 3), (("a", 1), ("b", 1), ("c", 2)))):
            many, price = self.below(book, store, prices, wish)
            answer = leads(book, machine, store, wish, prices)
            self.assertEqual((many, answer[:2], len(answer[3])), (1500, ("row", price), 1500))
            self.assertEqual(price_of(book, prices, answer[2]), price)
            self.assertIs(shows_leads(book, machine, store, wish, prices, answer), True)

    def test_just_1501_states_that_cost_less(self):
        book, store = WIDE_GOAL
        machine = ("show", all_kept(book))
        for prices, wish in (((1, 1, 3, 2, 9, 1, 2, 2), (("a", -1), ("b", 0), ("c", 2))),
                             ((2, 2, 3, 1, 8, 1, 2, 1), (("a", 0), ("b", 2), ("c", 2)))):
            many, price = self.below(book, store, prices, wish)
            self.assertEqual(many, 1501)
            check_refused(self, TooMany, 1500, leads, book, machine, store, wish, prices)
            # The answer can be shown all the same.
            costs = all_costs(book, machine, store, prices)
            below = tuple(sorted((state, cost) for state, cost in costs.items() if cost < price))
            row = self.cheapest_row(book, machine, store, wish, prices, costs)
            self.assertIs(shows_leads(book, machine, store, wish, prices, ("row", price, row, below)), True)
            self.assertIs(shows_leads(book, machine, store, wish, prices, ("row", price, row, below[1:])), False)

    def cheapest_row(self, book, machine, store, wish, prices, costs):
        """A cheapest row, letter by letter from its end."""
        walk, row = Walk(book, machine), []
        state = min((cost, state) for state, cost in costs.items() if has(book, state, wish))[1]
        while state != (store, ()):
            state, letter = next((elder, letter) for elder in costs for letter, price in zip(book.letters, prices)
                                 if costs[elder] + price == costs[state] and walk.step(elder, letter)[1] == state)
            row.append(letter)
        return tuple(row[::-1])

    def test_a_wish_that_comes_ahead_of_1500_states_although_more_can_be_reached(self):
        book, store = WIDE_GOAL
        machine, prices = ("show", all_kept(book)), (1,) * 8
        self.assertEqual(len(all_costs(book, machine, store, prices)), 3000)
        answer = leads(book, machine, store, (("c", 2),), prices)
        self.assertTrue(same(answer, ("row", 1, (("r", 2),), (((store, ()), 0),))))
        self.assertEqual(leads(book, machine, store, (), prices), ("row", 0, (), ()))

    def test_a_wish_that_none_of_just_1500_states_has(self):
        book, store = WIDE_NEVER
        machine, prices = ("show", all_kept(book)), (9,) * len(book.letters)
        table = tuple(sorted(all_costs(book, machine, store, prices)))
        self.assertEqual(len(table), 1500)
        answer = leads(book, machine, store, (("c", 2),), prices)
        self.assertTrue(same(answer, ("never", table)))
        self.assertIs(shows_leads(book, machine, store, (("c", 2),), prices, answer), True)

    def test_a_wish_that_none_of_too_many_states_has(self):
        book, store = WIDE_GOAL
        book = Book(book.text.replace("deed r 3", "deed r 2"))
        machine, prices = ("show", all_kept(book)), (9,) * len(book.letters)
        table = tuple(sorted(all_costs(book, machine, store, prices)))
        self.assertEqual(len(table), 2250)
        check_refused(self, TooMany, 1500, leads, book, machine, store, (("c", 2),), prices)
        self.assertIs(shows_leads(book, machine, store, (("c", 2),), prices, ("never", table)), True)
        self.assertIs(shows_leads(book, machine, store, (("c", 2),), prices, ("never", table[1:])), False)


class ShownLeads(unittest.TestCase):
    KEPT = ("show", (("a", "row"),))
    CASES = (
        (STEPS, RUN, (0, 0), (("a", 2),), (2, 4, 1)), (FLIP, RUN, (0, 0), (("a", 1), ("b", 0)), (2, 1)),
        (FLIP, KEPT, (0, 0), (("a", 1), ("b", 0)), (2, 1)), (PAIR, RUN, (0, 0), (), (1, 1)),
        (PAIR, RUN, (1, 1), (("a", 1),), (1, 1)), (SLY, KEPT, (0,), (("a", 1),), (1, 1)),
        (FLIP, KEPT, (0, 0), (("b", 1),), (2, 1)), (PAIR, RUN, (0, 0), (("b", 1),), (1, 9)),
    )

    def check_shown(self, expected, case, value):
        text, *arguments = case
        self.assertIs(shows_leads(Book(text), *arguments, value), expected, (case, value))

    def test_each_change_of_an_answer(self):
        for case in self.CASES:
            text, *arguments = case
            book = Book(text)
            answer = leads(book, *arguments)
            self.assertTrue(is_right(book, *arguments, answer))
            for value in changed(answer):
                self.check_shown(is_right(book, *arguments, value), case, value)

    def test_any_costs_of_two_states(self):
        case = (STEPS, RUN, (0, 0), (("a", 2),), (2, 4, 9))
        book = Book(STEPS)
        states = [(store, ()) for store in book.stores]
        row, many = (("jump", 0),), 0
        for size in range(4):
            for chosen in combinations(states, size):
                for cost in range(-1, 6):
                    costs = tuple((state, 0 if state == states[0] else cost) for state in chosen)
                    value = ("row", 4, row, costs)
                    right = is_right(book, *case[1:], value)
                    self.check_shown(right, case, value)
                    many += right
        self.assertGreaterEqual(many, 3)

    def test_lower_costs_and_more_members_where_the_clauses_let_them(self):
        case = (STEPS, RUN, (0, 0), (("a", 2),), (2, 4, 9))
        first, grown, other = ((0, 0), ()), ((1, 0), ()), ((1, 1), ())
        row = (("grow", 0), ("grow", 0))
        for costs, right in (
            (((first, 0), (grown, 2)), True),
            # With the cost 1, another grow would lead to the wish for 3.
            (((first, 0), (grown, 1)), False), (((first, 0), (grown, 3)), False), (((first, 0),), False),
            (((first, 0), (grown, 2), (other, 3)), True), (((first, 0), (grown, 2), (other, 2)), True),
            (((first, 0), (grown, 2), (other, 1)), False), (((first, 0), (grown, 2), (other, 4)), False),
            (((first, 0), (grown, 2), (other, -1)), False), (((first, 1), (grown, 2)), False), (((grown, 2),), False),
            (((first, 0), (grown, 2), (((2, 0), ()), 3)), False), (((first, 0), (first, 1), (grown, 2)), False),
            (((first, 0), (grown, 2), (grown, 2)), False), (((first, 0), (grown, 2), (grown, 3)), False),
            (((grown, 2), (first, 0)), False), (((first, False), (grown, 2)), False),
            (((first, 0), (grown, "2")), False),
            (((first, 0), (grown, 2), (other, 9)), False), (((first, 0), (grown, 2, 2)), False), ((), False),
            (((first, 0), grown), False), ([(first, 0), (grown, 2)], False), (((first, 0), [grown, 2]), False),
            (((first, 0), (((1, 0), []), 2)), False), (((first, 0), (((1, False), ()), 2)), False),
        ):
            self.assertEqual(is_right(Book(STEPS), *case[1:], ("row", 4, row, costs)), right, costs)
            self.check_shown(right, case, ("row", 4, row, costs))

    def test_a_state_twice_with_costs_each_of_which_would_do(self):
        case = (STEPS, RUN, (0, 0), (("a", 2),), (2, 4, 9))
        first, grown, other = ((0, 0), ()), ((1, 0), ()), ((1, 1), ())
        row = (("jump", 0),)
        self.check_shown(True, case, ("row", 4, row, ((first, 0), (grown, 2), (other, 2))))
        self.check_shown(True, case, ("row", 4, row, ((first, 0), (grown, 2), (other, 3))))
        self.check_shown(False, case, ("row", 4, row, ((first, 0), (grown, 2), (other, 2), (other, 3))))
        self.check_shown(False, case, ("row", 4, row, ((first, 0), (grown, 1), (grown, 2))))

    def test_a_state_that_leads_to_no_other_one(self):
        text = lined("key a 2", "key b 2", "deed go 1", "  if b = 0", "    set a 1", "deed trap 1", "  if a = 0",
                     "    set b 1")
        case = (text, RUN, (0, 0), (("a", 1),), (3, 1))
        first, trapped = ((0, 0), ()), ((0, 1), ())
        for cost, right in ((1, True), (0, True), (-1, False), (-9, False), (2, False), (3, False), (True, False)):
            self.check_shown(right, case, ("row", 3, (("go", 0),), ((first, 0), (trapped, cost))))
        self.check_shown(False, case, ("row", 3, (("go", 0),), ((first, 0),)))
        # For the price 1 nothing else is there.
        self.check_shown(True, (text, RUN, (0, 0), (("a", 1),), (1, 1)), ("row", 1, (("go", 0),), ((first, 0),)))

    def test_lower_costs_than_the_least_ones(self):
        # Only the goal counts, so a state on no way to it may be told to cost less.
        case = (STEPS, RUN, (0, 0), (("a", 2),), (3, 5, 1))
        first, turned, grown, both = ((0, 0), ()), ((0, 1), ()), ((1, 0), ()), ((1, 1), ())
        row = (("jump", 0),)
        right = ((first, 0), (turned, 1), (grown, 3), (both, 4))
        self.check_shown(True, case, ("row", 5, row, right))
        self.check_shown(True, case, ("row", 5, row, ((first, 0), (turned, 1), (grown, 3), (both, 3))))
        self.check_shown(True, case, ("row", 5, row, ((first, 0), (turned, 1), (grown, 2), (both, 3))))
        self.check_shown(False, case, ("row", 5, row, ((first, 0), (turned, 1), (grown, 1), (both, 2))))
        self.check_shown(False, case, ("row", 5, row, ((first, 0), (turned, 0), (grown, 3), (both, 4))))
        self.check_shown(False, case, ("row", 5, row, ((first, 0), (turned, 1), (grown, 2), (both, 4))))

    def test_another_row_and_another_price(self):
        case = (STEPS, RUN, (0, 0), (("a", 2),), (2, 4, 1))
        book = Book(STEPS)
        word, price, row, costs = leads(book, *case[1:])
        self.assertEqual((word, price), ("row", 4))
        grow, jump, turn = ("grow", 0), ("jump", 0), ("turn", 0)
        for price, row in ((4, (grow, grow)), (4, (jump,))):
            self.check_shown(True, case, (word, price, row, costs))
        for price, row in ((5, (jump, turn)), (5, (jump,)), (4, (jump, turn)), (3, (jump,)), (4, (grow,)), (2, (grow,)),
                           (4, (turn,) * 4), (4, ()), (0, ()), ("4", (jump,)), (4, [jump]), (4, (["jump", 0],)),
                           (None, (jump,)),
                           (4, (("jump", False),)), (4, (("jump", 1),)), (4, jump), (4, None), (True, (turn,)),
                           (1, (turn,)),
                           (4, (grow, grow, ())), ((4,), (jump,)), (-4, (jump,))):
            self.check_shown(False, case, (word, price, row, costs))
        # A dearer row is right for no costs, since the state that has the wish must not be there.
        below = tuple(sorted((state, cost) for state, cost in all_costs(book, *case[1:3], case[4]).items() if cost < 5))
        self.check_shown(False, case, (word, 5, (jump, turn), below))
        self.check_shown(False, case, (word, 5, (jump, turn), tuple(
            (state, cost) for state, cost in below if state[0][0] != 2)))

    def test_a_price_of_0(self):
        case = (PAIR, RUN, (1, 1), (("a", 1),), (1, 1))
        self.check_shown(True, case, ("row", 0, (), ()))
        for value in (("row", False, (), ()), ("row", 0, (), ((((1, 1), ()), 0),)), ("row", 0, (LOOK,), ()),
                      ("row", 1, (LOOK,), ()),
                      ("row", 1, (LOOK,), ((((1, 1), ()), 0),)), ("row", 0, [], ()), ("row", 0, (), []), ("never", ()),
                      ("row", 0, (), None), ("row", 0, None, ()), ("row", 0, ()), ("row", 0, (), (), ()), ("row",)):
            self.check_shown(False, case, value)
        # A price of 1 is not True.
        case = (SLY, self.KEPT, (0,), (("a", 1),), (1, 1))
        self.check_shown(True, case, ("row", 1, (PUT,), ((((0,), ()), 0),)))
        self.check_shown(False, case, ("row", True, (PUT,), ((((0,), ()), 0),)))

    def test_tables(self):
        case = (FLIP, RUN, (0, 0), (("a", 1), ("b", 0)), (2, 1))
        zero, one, wished, other = (((worth, more), ()) for worth, more in ((0, 0), (1, 1), (1, 0), (0, 1)))
        for table, right in (((zero, one), True), ((zero, other, wished, one), False), ((zero, other, one), False),
                             ((zero,), False), ((one,), False), ((), False), ((one, zero), False),
                             ((zero, zero, one), False),
                             ([zero, one], False), ((zero, one, None), False), ((other, wished), False)):
            self.check_shown(right, case, ("never", table))
        # The wish is only had by a member that cannot be reached.
        case = (STEPS, RUN, (0, 0), (("a", 1), ("b", 1)), (1, 1, 1))
        self.assertEqual(leads(Book(STEPS), *case[1:])[0], "row")
        case = (FLIP, self.KEPT, (0, 0), (("b", 1),), (2, 1))
        word, table = leads(Book(FLIP), *case[1:])
        self.check_shown(True, case, (word, table))
        greater = tuple(sorted(table + (((1, 0), ()), ((1, 0), (("a", 0),)), ((1, 0), (("a", 1),)))))
        self.check_shown(True, case, (word, greater))
        self.check_shown(False, case, (word, greater[:-1]))
        self.check_shown(False, case, (word, greater[1:]))
        self.check_shown(False, case, (word, table[1:]))
        # From a member that has the wish only other members are reached, and none leads to it.
        book = Book(lined("key a 3", "deed down 1", "  set a 0"))
        case = (book.text, RUN, (0,), (("a", 2),), (1,))
        self.check_shown(True, case, ("never", (((0,), ()),)))
        self.check_shown(True, case, ("never", (((0,), ()), ((1,), ()))))
        self.check_shown(False, case, ("never", (((0,), ()), ((2,), ()))))

    def test_states_of_this_machine_only(self):
        value = leads(Book(FLIP), self.KEPT, (0, 0), (("b", 1),), (2, 1))
        self.assertEqual(value[0], "never")
        for machine in machines_of(Book(FLIP)):
            right = machine in (self.KEPT, ("show", (("a", "row"), ("b", "deed"))))
            self.check_shown(right, (FLIP, machine, (0, 0), (("b", 1),), (2, 1)), value)

    def test_values_of_other_kinds(self):
        for case in self.CASES:
            for value in ANY_VALUES + (
                "never", "row", ("never",), ("row",), ("never", ()), ("row", ()), ("never", None), ("row", 0, 0, 0),
                ("row", (), (), ()), ("never", (), (), ()), ("row", None, None, None), (True, ()), (None, 0, (), ()),
                (["row"], 0, (), ()), ("never", {}), ("never", ((),)), ("never", (None,)), ("never", nested(30)),
                ("row",) + (nested(30),) * 3, nested(30), "rows", ("row", 0, (), {}), ("row", 1, (LOOK,), ((None, 0),)),
            ):
                self.check_shown(False, case, value)


if __name__ == "__main__":
    unittest.main()
