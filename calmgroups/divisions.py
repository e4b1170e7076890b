"""Divisions of strict wishes of pairs: each member has a next one, and the last is what it keeps."""

from itertools import permutations

from calmgroups.checks import are_unlike
from calmgroups.errors import Undefined
from calmgroups.pairs import is_pairs
from calmgroups.wishes import is_strict, rank_table


def rings_of(value):
    """The rings of a row of next members, each from its least member on, ascending."""
    rings = []
    for start in range(len(value)):
        if not any([start in ring for ring in rings]):
            rings.append(_ring_from(value, start))
    return tuple(rings)


def odd_rings_of(value):
    """The rings of an odd number of members, three or more, of a row of next members."""
    return tuple([ring for ring in rings_of(value) if len(ring) >= 3 and len(ring) % 2 == 1])


def division(wishes):
    """Some division; there always is one."""
    if not is_pairs(wishes.collection):
        raise Undefined("pairs")
    if not is_strict(wishes):
        raise Undefined("strict")
    likings = _likings(wishes)
    for row in permutations(range(wishes.collection.n)):
        if _is_division(likings, row):
            return row
    return None


def division_holds(wishes, value):
    """Whether any value is a division of the wishes."""
    n = wishes.collection.n
    if not is_pairs(wishes.collection) or not is_strict(wishes):
        return False
    return are_unlike(value, n) and len(value) == n and _is_division(_likings(wishes), value)


def odd_rings(wishes):
    """The rings of an odd number of members, three or more, of every division."""
    return odd_rings_of(division(wishes))


def _ring_from(value, start):
    """The ring of a row of next members that begins with start."""
    ring = [start]
    while value[ring[-1]] != start:
        ring.append(value[ring[-1]])
    return tuple(ring)


def _likings(wishes):
    """For each member its ranks by the other member of the group; itself stands for being alone."""
    groups = wishes.collection.groups
    rows = []
    for member, ranks in enumerate(rank_table(wishes)):
        # Both ends of a pair less the member are the other one, those of it alone the member.
        rows.append({groups[place][0] + groups[place][-1] - member: ranks[place] for place in ranks})
    return rows


def _is_division(likings, row):
    """Whether a row of next members, each member once, is a division."""
    if not all([row[member] in likings[member] for member in range(len(row))]):
        return False
    lasts = [row.index(member) for member in range(len(row))]
    own = [likings[member][lasts[member]] for member in range(len(row))]
    for member, ranks in enumerate(likings):
        if row[member] != lasts[member] and ranks[row[member]] >= own[member]:
            return False
        if any([ranks[other] < own[member] and likings[other][member] < own[other] for other in ranks]):
            return False
    return True
