"""Collections of pairs: their two sides, or the odd rings that bar these."""

from itertools import permutations

from calmgroups.calm import calm_lots, own_ranks
from calmgroups.checks import are_unlike, is_number_below, is_tuple_of
from calmgroups.errors import InvalidKind, Undefined
from calmgroups.lapping import wishes_against
from calmgroups.wishes import is_strict, rank_table


def is_pairs(collection):
    """Whether no group has more than two members."""
    return all([len(group) <= 2 for group in collection.groups])


def sides(collection):
    """For each member a side, 0 or 1, unlike for the two of each pair."""
    _look_for_pairs(collection)
    row = _first_sides(collection)
    if row is None:
        raise Undefined("sides")
    return row


def has_sides(collection):
    """Whether a collection of pairs has two sides."""
    return _first_sides(collection) is not None


def are_sides(collection, value):
    """Whether any value has a side for each member, unlike for the two of each pair."""
    if not is_tuple_of(value, collection.n, lambda side: is_number_below(side, 2)):
        return False
    return all([len(group) == 1 or value[group[0]] != value[group[1]] for group in collection.groups])


def odd_ring(collection):
    """Some odd ring: each two neighbours, and the last and the first, are a group."""
    _look_for_pairs(collection)
    for length in range(3, collection.n + 1, 2):
        for ring in permutations(range(collection.n), length):
            if _is_ring(collection, ring):
                return ring
    raise Undefined("odd")


def odd_ring_holds(collection, value):
    """Whether any value is an odd ring of the collection."""
    if not is_pairs(collection) or not are_unlike(value, collection.n):
        return False
    return len(value) >= 3 and len(value) % 2 == 1 and _is_ring(collection, value)


def against_pairs(collection):
    """Some strict wishes for the collection that have no calm lot."""
    members = odd_ring(collection)
    # Each member of the ring likes its pair with the next one best, that with the last one next.
    # As they are odd in number, one is alone in each lot, and the last one leaves with it.
    places = [collection.place(_pair(members[k - 1], members[k])) for k in range(len(members))]
    return wishes_against(collection, (tuple(places), members))


def proposed(wishes, side):
    """The calm lot that each member of this side likes at least as much as every other one."""
    collection = wishes.collection
    row = sides(collection)
    if not is_strict(wishes):
        raise Undefined("strict")
    if not is_number_below(side, 2):
        raise InvalidKind(side)
    table = rank_table(wishes)
    told = []
    for lot in calm_lots(wishes):
        own = own_ranks(collection, table, lot)
        told.append(([own[member] for member in range(collection.n) if row[member] == side], lot))
    # One lot is the best for all of the side at once, so what comes first for one is it.
    return min(told)[1]


def _look_for_pairs(collection):
    """Raises what is due unless the collection is of pairs."""
    if not is_pairs(collection):
        raise Undefined("pairs")


def _first_sides(collection):
    """The sides of the members, None if there are none."""
    # The first row in dictionary order has side 0 for the least member of each part:
    # a part in which it has side 1 could be turned, and the row would come earlier.
    for number in range(1 << collection.n):
        row = tuple([number >> member & 1 for member in reversed(range(collection.n))])
        if are_sides(collection, row):
            return row
    return None


def _is_ring(collection, members):
    """Whether each two neighbours, and the last and the first, are a group."""
    return all([_pair(members[k - 1], members[k]) in collection.groups for k in range(len(members))])


def _pair(one, other):
    return (min(one, other), max(one, other))
