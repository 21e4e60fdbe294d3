"""The sequences in which choices are tried: sets of members that have prices, and orders of numbers."""

from onlytell.forms import is_same


def sets_of(priced):
    """All sets of members, which are given as (member, price); each is (price, members in their sequence)."""
    sets = [(0, ())]
    for member, price in priced:
        sets = sets + [(elder[0] + price, elder[1] + (member,)) for elder in sets]
    return sets


def sets_by_price(priced):
    """These sets, sorted by price, then by how many members they have, then as tuples."""
    rows = sorted([(price, len(members), members) for price, members in sets_of(priced)])
    return [(price, members) for price, _, members in rows]


def place_in(sets, value):
    """The place of the value among these sets, each (price, members); None for any other value."""
    for place, one in enumerate(sets):
        if is_same(one, value):
            return place
    return None


def orders_of(many):
    """All orders of so many numbers, from 0 on, each number once; ascending."""
    orders = [()]
    for _ in range(many):
        orders = [order + (number,) for order in orders for number in range(many) if number not in order]
    return orders
