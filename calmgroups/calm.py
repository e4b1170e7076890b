"""Groups that leave a lot, and the lots that none leaves.

A table is here what rank_table tells of the wishes; own are the ranks of a
lot, for each member that of its own group there.
"""

from calmgroups.checks import is_number_below
from calmgroups.errors import InvalidLot, InvalidNumber
from calmgroups.lots import is_lot, lots
from calmgroups.wishes import rank_table


def leaves(wishes, lot, place):
    """Whether each member of the group at this place likes it better than its own in the lot."""
    _look_at(wishes.collection, lot, place)
    table = rank_table(wishes)
    return goes(wishes.collection, table, own_ranks(wishes.collection, table, lot), place)


def leaves_softly(wishes, lot, place):
    """Whether each member of the group likes it as much or better, and one of them better."""
    _look_at(wishes.collection, lot, place)
    table = rank_table(wishes)
    return goes_softly(wishes.collection, table, own_ranks(wishes.collection, table, lot), place)


def leaving(wishes, lot):
    """The least place of a group that leaves the lot, None if the lot is calm."""
    if not is_lot(wishes.collection, lot):
        raise InvalidLot(lot)
    return first_going(wishes.collection, rank_table(wishes), lot, goes)


def calm_lots(wishes):
    """All lots that no group leaves, in dictionary order."""
    return _lots_without(wishes, goes)


def firm_lots(wishes):
    """All lots that no group leaves softly, in dictionary order."""
    return _lots_without(wishes, goes_softly)


def better_lot(wishes, lot):
    """The first lot that nobody likes less than this one and some member likes better, or None."""
    collection = wishes.collection
    if not is_lot(collection, lot):
        raise InvalidLot(lot)
    table = rank_table(wishes)
    own = own_ranks(collection, table, lot)
    for other in lots(collection):
        ranks = own_ranks(collection, table, other)
        if ranks != own and all([ranks[member] <= own[member] for member in range(collection.n)]):
            return other
    return None


def own_ranks(collection, table, lot):
    """For each member its rank of its own group in the lot."""
    own = [0] * collection.n
    for place in lot:
        for member in collection.groups[place]:
            own[member] = table[member][place]
    return own


def goes(collection, table, own, place):
    """Whether the group at this place leaves a lot of such ranks."""
    return all([table[member][place] < own[member] for member in collection.groups[place]])


def goes_softly(collection, table, own, place):
    """Whether the group at this place leaves a lot of such ranks softly."""
    group = collection.groups[place]
    if any([table[member][place] > own[member] for member in group]):
        return False
    return any([table[member][place] < own[member] for member in group])


def first_going(collection, table, lot, way):
    """The least place of a group that goes in this way, goes or goes_softly; None if none does."""
    own = own_ranks(collection, table, lot)
    for place in range(len(collection)):
        if way(collection, table, own, place):
            return place
    return None


def _lots_without(wishes, way):
    """The lots from which no group goes in this way."""
    table = rank_table(wishes)
    collection = wishes.collection
    return tuple([lot for lot in lots(collection) if first_going(collection, table, lot, way) is None])


def _look_at(collection, lot, place):
    """Raises what is due unless this is a lot and the place of a group."""
    if not is_lot(collection, lot):
        raise InvalidLot(lot)
    if not is_number_below(place, len(collection)):
        raise InvalidNumber(place)
