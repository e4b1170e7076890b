"""Lots: each puts every member in one group of a collection."""

from calmgroups.checks import is_ascending, is_number_below
from calmgroups.errors import InvalidLot, InvalidNumber


def is_lot(collection, value):
    """Whether any value is an ascending tuple of places whose groups have each member once."""
    if not is_ascending(value, len(collection)):
        return False
    members = [member for place in value for member in collection.groups[place]]
    return sorted(members) == list(range(collection.n))


def lots(collection):
    """All lots, in dictionary order."""
    return tuple(sorted(_completed(collection, (), tuple(range(collection.n)))))


def _completed(collection, taken, left):
    """The lots of the taken groups and of further ones that have the members left."""
    if len(left) == 0:
        return [tuple(sorted(taken))]
    found = []
    # The least member left must be in a group, so each lot is come to in one way only.
    for place in collection.places_of(left[0]):
        group = collection.groups[place]
        if all([member in left for member in group]):
            rest = tuple([member for member in left if member not in group])
            found.extend(_completed(collection, taken + (place,), rest))
    return found


def own_place(collection, lot, member):
    """The place of the member's group in the lot."""
    if not is_lot(collection, lot):
        raise InvalidLot(lot)
    if not is_number_below(member, collection.n):
        raise InvalidNumber(member)
    return [place for place in lot if member in collection.groups[place]][0]
