"""Wishes that come from numbers, sizes or friends."""

from calmgroups.checks import are_unlike, is_int, is_tuple_of
from calmgroups.errors import InvalidOrders, InvalidValues
from calmgroups.groups import groups_of
from calmgroups.wishes import Wishes, is_rank

MOST_VALUE = 99


def are_numbers(collection, value):
    """Whether any value has for each member an integer for each member."""
    n = collection.n
    return is_tuple_of(value, n, lambda row: is_tuple_of(row, n, _is_worth))


def _is_worth(value):
    """Whether any value is an integer by which a member may value one."""
    return is_int(value) and -MOST_VALUE <= value <= MOST_VALUE


def by_numbers(collection, numbers):
    """The wishes of members who value a group by the sum of their integers for the others."""
    if not are_numbers(collection, numbers):
        raise InvalidValues(numbers)
    rows = [_ranks_of(_sums(collection, member, numbers[member])) for member in range(collection.n)]
    return Wishes(collection, tuple(rows))


def _sums(collection, member, values):
    """The sum of the member's integers for the others, for each of its groups."""
    return [
        sum([values[other] for other in group if other != member]) for group in groups_of(collection, member)
    ]


def _ranks_of(sums):
    """For each sum the number of unlike ones that are more."""
    return tuple([len(set([other for other in sums if other > one])) for one in sums])


def by_sizes(collection, likes):
    """The wishes of members who rank a group of k members by their k-th number."""
    n = collection.n
    if not is_tuple_of(likes, n, lambda row: is_tuple_of(row, n, is_rank)):
        raise InvalidValues(likes)
    rows = [_ranks_by_size(collection, member, likes[member]) for member in range(n)]
    return Wishes(collection, tuple(rows))


def _ranks_by_size(collection, member, numbers):
    return tuple([numbers[len(group) - 1] for group in groups_of(collection, member)])


def by_best(collection, orders):
    """The wishes of members who look at the best of the others in a group."""
    return _by_orders(collection, orders, lambda places: min(places))


def by_worst(collection, orders):
    """The wishes of members who look at the worst of the others in a group."""
    return _by_orders(collection, orders, lambda places: max(places))


def _by_orders(collection, orders, pick):
    """The wishes of members who rank a group by a place in their order that pick takes."""
    n = collection.n
    if not is_tuple_of(orders, n, lambda order: are_unlike(order, n) and len(order) == n):
        raise InvalidOrders(orders)
    rows = []
    for member in range(n):
        groups = groups_of(collection, member)
        rows.append(tuple([pick(_places_in(orders[member], member, group)) for group in groups]))
    return Wishes(collection, tuple(rows))


def _places_in(order, member, group):
    """The places in the order of the others of the group; the member's own if it is alone."""
    if group == (member,):
        return [order.index(member)]
    return [order.index(other) for other in group if other != member]
