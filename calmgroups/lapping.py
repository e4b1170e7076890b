"""Collections that lap singly, and rings of groups in the others.

The ring that is told is as short as can be. So, if it has three or more groups,
no two of these share a member but the two neighbours theirs, or a shorter one
could be cut from it.
"""

from calmgroups.checks import are_unlike
from calmgroups.errors import Undefined
from calmgroups.wishes import Wishes


def laps_singly(collection):
    """Whether the collection has no ring of groups."""
    return _shortest_ring(collection) is None


def group_ring(collection):
    """Some ring of groups."""
    ring = _shortest_ring(collection)
    if ring is None:
        raise Undefined("single")
    return ring


def group_ring_holds(collection, value):
    """Whether any value is a ring of groups of the collection."""
    if not isinstance(value, tuple) or len(value) != 2:
        return False
    places, members = value
    if not are_unlike(places, len(collection)) or not are_unlike(members, collection.n):
        return False
    if len(places) != len(members) or len(places) < 2:
        return False
    groups = [collection.groups[place] for place in places]
    return all([members[k - 1] in groups[k - 1] and members[k - 1] in groups[k] for k in range(len(groups))])


def against(collection):
    """Some strict wishes for the collection that have no calm lot, or two or more."""
    return wishes_against(collection, group_ring(collection))


def wishes_against(collection, ring):
    """The strict wishes in which the groups of the ring come first, each but for one member's next."""
    rows = [_ranks_against(collection, ring, member) for member in range(collection.n)]
    return Wishes(collection, tuple(rows))


def _shortest_ring(collection):
    """Some ring of groups that is as short as can be, None if there is none."""
    for length in range(2, collection.n + 1):
        for place in range(len(collection)):
            ring = _closed(collection, (place,), (), length)
            if ring is not None:
                return ring
    return None


def _closed(collection, places, members, length):
    """Some ring of this length that begins so, None if there is none."""
    group = collection.groups[places[-1]]
    free = [member for member in group if member not in members]
    if len(places) == length:
        closing = [member for member in free if member in collection.groups[places[0]]]
        return (places, members + (closing[0],)) if len(closing) > 0 else None
    for member in free:
        for place in collection.places_of(member):
            if place not in places:
                ring = _closed(collection, places + (place,), members + (member,), length)
                if ring is not None:
                    return ring
    return None


def _ranks_against(collection, ring, member):
    """The member's ranks: groups of the ring first, then being alone, then the others."""
    places, members = ring
    own = collection.places_of(member)
    first = places
    if member in members:
        k = members.index(member)
        first = (places[(k + 1) % len(places)], places[k])
    # Places that come again behind, and those of groups without the member, do no harm.
    order = first + (collection.place((member,)),) + own
    return tuple([order.index(place) for place in own])
