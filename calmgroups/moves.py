"""Moves of single members from lot to lot, and whether they end.

Ways tell here, by lot and in the order of lots, the lots that moves from it lead to.
"""

from calmgroups.checks import is_number, is_tuple_of
from calmgroups.errors import InvalidKind, InvalidLot, InvalidValues, Undefined
from calmgroups.lots import is_lot, lots
from calmgroups.makers import are_numbers
from calmgroups.wishes import rank_table

KINDS = ("free", "welcome", "agreed")


def is_kind(value):
    """Whether any value is a kind of moves."""
    return value in KINDS


def moves(wishes, lot, kind):
    """All pairs of a member that may move from the lot and the lot that is come to, ascending."""
    if not is_lot(wishes.collection, lot):
        raise InvalidLot(lot)
    if not is_kind(kind):
        raise InvalidKind(kind)
    return _moves_from(wishes.collection, rank_table(wishes), lot, kind)


def rests(wishes, kind):
    """The lots without a move of this kind, in dictionary order."""
    ways = _all_ways(wishes, kind)
    return tuple([lot for lot in ways if len(ways[lot]) == 0])


def ends(wishes, kind):
    """Whether moves of this kind end from every lot."""
    ways = _all_ways(wishes, kind)
    return len(_heights_by_lot(ways)) == len(ways)


def heights(wishes, kind):
    """For each lot, in order, the greatest number of moves in a row from it."""
    ways = _all_ways(wishes, kind)
    found = _heights_by_lot(ways)
    if len(found) < len(ways):
        raise Undefined("ring")
    return tuple([found[lot] for lot in ways])


def move_ring(wishes, kind):
    """Some ring of moves of this kind."""
    ways = _all_ways(wishes, kind)
    found = _heights_by_lot(ways)
    endless = [lot for lot in ways if lot not in found]
    if len(endless) == 0:
        raise Undefined("heights")
    walk = [endless[0]]
    # From each endless lot a move leads to another one, so the walk must come to one again.
    while walk.index(walk[-1]) == len(walk) - 1:
        walk.append([lot for lot in ways[walk[-1]] if lot in endless][0])
    return tuple(walk[walk.index(walk[-1]):-1])


def heights_hold(wishes, kind, value):
    """Whether any kind is one and any value has for each lot a number that is less behind each move."""
    if not is_kind(kind):
        return False
    ways = _all_ways(wishes, kind)
    if not is_tuple_of(value, len(ways), is_number):
        return False
    height = dict(zip(list(ways), value))
    return all([height[goal] < height[lot] for lot in ways for goal in ways[lot]])


def move_ring_holds(wishes, kind, value):
    """Whether any kind is one and any value is a ring of moves of this kind."""
    if not is_kind(kind) or not isinstance(value, tuple) or len(value) < 2:
        return False
    if not all([is_lot(wishes.collection, lot) for lot in value]) or len(set(value)) < len(value):
        return False
    ways = _ways_from(wishes, kind, value)
    return all([value[k] in ways[value[k - 1]] for k in range(len(value))])


def worth(collection, numbers, lot):
    """The sum of what members in one group of the lot value one another by, each two counted once."""
    if not are_numbers(collection, numbers) or not _are_mutual(numbers):
        raise InvalidValues(numbers)
    if not is_lot(collection, lot):
        raise InvalidLot(lot)
    groups = [collection.groups[place] for place in lot]
    return sum([numbers[one][other] for group in groups for one in group for other in group if one < other])


def _all_ways(wishes, kind):
    """The ways of this kind from all lots; raises what is due unless it is a kind."""
    if not is_kind(kind):
        raise InvalidKind(kind)
    return _ways_from(wishes, kind, lots(wishes.collection))


def _ways_from(wishes, kind, chosen):
    """The ways of this kind from the chosen lots."""
    collection = wishes.collection
    table = rank_table(wishes)
    return {lot: [reached for _, reached in _moves_from(collection, table, lot, kind)] for lot in chosen}


def _moves_from(collection, table, lot, kind):
    """The pairs of a member and the lot that it may move to, ascending."""
    places = {group: place for place, group in enumerate(collection.groups)}
    found = []
    for home in lot:
        # None stands for nobody to come to: the member moves to be alone.
        for goal in [None] + [place for place in lot if place != home]:
            others = [place for place in lot if place not in (home, goal)]
            for member in collection.groups[home]:
                taken = _taken(collection, places, member, home, goal)
                if taken is not None and _may_move(collection, table, member, (home, goal), taken, kind):
                    found.append((member, tuple(sorted(others + taken))))
    return tuple(sorted(found))


def _taken(collection, places, member, home, goal):
    """The places of what the member comes to and, unless this is nobody, of what is left; None if one is no group."""
    company = () if goal is None else collection.groups[goal]
    rest = tuple([other for other in collection.groups[home] if other != member])
    groups = [tuple(sorted(company + (member,))), rest]
    if len(rest) == 0:
        groups = groups[:1]
    if not all([group in places for group in groups]):
        return None
    return [places[group] for group in groups]


def _may_move(collection, table, member, way, taken, kind):
    """Whether the member, and those whom the kind asks, let it go the way from home to goal."""
    home, goal = way
    if table[member][taken[0]] >= table[member][home]:
        return False
    if kind != "free" and goal is not None:
        if any([table[other][taken[0]] > table[other][goal] for other in collection.groups[goal]]):
            return False
    if kind == "agreed" and len(taken) == 2:
        return all([table[other][taken[1]] <= table[other][home] for other in collection.groups[taken[1]]])
    return True


def _heights_by_lot(ways):
    """By lot the greatest number of moves from it, for the lots from which moves end."""
    found = {}
    fresh = [lot for lot in ways if len(ways[lot]) == 0]
    height = 0
    while len(fresh) > 0:
        for lot in fresh:
            found[lot] = height
        height = height + 1
        # A lot comes right behind the last of the lots that moves from it lead to.
        fresh = [lot for lot in ways if lot not in found and all([goal in found for goal in ways[lot]])]
    return found


def _are_mutual(numbers):
    """Whether the integer of one member for another is that of the other for it."""
    members = range(len(numbers))
    return all([numbers[a][b] == numbers[b][a] for a in members for b in members])
