"""The way of tops, and the rings of wishes where it ends."""

from calmgroups.checks import is_number_below
from calmgroups.errors import InvalidMembers, Undefined
from calmgroups.groups import is_group
from calmgroups.wishes import rank_table


def tops(wishes):
    """The places of the groups taken, in the order in which they are, and the members left."""
    collection = wishes.collection
    table = rank_table(wishes)
    taken = ()
    left = tuple(range(collection.n))
    place = _top(collection, table, left)
    while place is not None:
        taken = taken + (place,)
        left = tuple([member for member in left if member not in collection.groups[place]])
        place = _top(collection, table, left)
    return (taken, left)


def wish_ring(wishes, members):
    """Some ring of wishes among these members, of whom no group is top."""
    collection = wishes.collection
    if not is_group(members, collection.n):
        raise InvalidMembers(members)
    table = rank_table(wishes)
    if _top(collection, table, members) is not None:
        raise Undefined("top")
    best = _best_places(collection, table, members)
    walk = []
    places = [best[members[0]]]
    # No group is top, so the walk goes on from each; it must come to one of them again.
    while places.index(places[-1]) == len(places) - 1:
        member = _unhappy(collection, table, best, places[-1])
        walk.append(member)
        places.append(best[member])
    begin = places.index(places[-1])
    return tuple(zip(places[begin:-1], walk[begin:]))


def ring_of_wishes_holds(wishes, members, value):
    """Whether any members are such and any value is a ring of wishes among them."""
    collection = wishes.collection
    if not is_group(members, collection.n) or not isinstance(value, tuple) or len(value) < 2:
        return False
    if not all([_is_pair(collection, pair) for pair in value]):
        return False
    places = [place for place, _ in value]
    if len(set(places)) < len(places) or not all([_is_within(collection, place, members) for place in places]):
        return False
    table = rank_table(wishes)
    return all([_leads(table, value[k - 1], places[k]) for k in range(len(value))])


def _top(collection, table, left):
    """The least place of a top group among the members left, None if there is none."""
    best = _best_places(collection, table, left)
    for place in range(len(collection)):
        if _is_within(collection, place, left) and _unhappy(collection, table, best, place) is None:
            return place
    return None


def _best_places(collection, table, left):
    """For each member left the place of the group of such alone that it likes best, by member."""
    best = {}
    for member in left:
        ranks = table[member]
        best[member] = min([(ranks[place], place) for place in ranks if _is_within(collection, place, left)])[1]
    return best


def _unhappy(collection, table, best, place):
    """The first member of the group that likes its best place better, None if there is none."""
    for member in collection.groups[place]:
        if table[member][best[member]] < table[member][place]:
            return member
    return None


def _is_within(collection, place, members):
    """Whether the group at this place has these members alone."""
    return all([member in members for member in collection.groups[place]])


def _is_pair(collection, value):
    """Whether any value is a pair of a place and a member."""
    if not isinstance(value, tuple) or len(value) != 2:
        return False
    return is_number_below(value[0], len(collection)) and is_number_below(value[1], collection.n)


def _leads(table, pair, following):
    """Whether the pair's member is in its group and in the following one and likes that one better."""
    place, member = pair
    ranks = table[member]
    return place in ranks and following in ranks and ranks[following] < ranks[place]
