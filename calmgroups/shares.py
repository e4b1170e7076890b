"""Rows of shares of a collection, and the calm ones among them.

A calm row is looked for by the worst group with a share of each member. The
standings of a member tell, by place, how good its groups are to it, 0 the best; they
are strict, as of groups that it likes as much that at the lesser place counts as better.
What is calm so is calm with the ties, too. Groups that a member of them likes less than
being alone are left out.

Scarf's lemma tells that there are n unlike groups, each one the worst of them for
just one member, of which one calm row is made; no other row is made of these alone.
"""

from calmgroups.checks import is_tuple_of
from calmgroups.errors import InvalidLot
from calmgroups.ratios import is_ratio, solved, total
from calmgroups.wishes import rank_table


def is_shares(collection, value):
    """Whether any value is a row of shares of the collection."""
    if not is_tuple_of(value, len(collection), _is_share):
        return False
    members = range(collection.n)
    return all([total([value[place] for place in collection.places_of(member)]) == (1, 1) for member in members])


def shares(wishes):
    """Some calm row of shares; there always is one."""
    return _calm_row(wishes.collection, _standings(wishes), ())


def calm_shares_hold(wishes, value):
    """Whether any value is a calm row of shares."""
    collection = wishes.collection
    if not is_shares(collection, value):
        return False
    table = rank_table(wishes)
    worst = [max([ranks[own] for own in ranks if value[own][0] > 0]) for ranks in table]
    for place, group in enumerate(collection.groups):
        if all([table[member][place] < worst[member] for member in group]):
            return False
    return True


def lot_of_shares(collection, value):
    """The lot of the groups that have the whole share."""
    if not is_shares(collection, value) or not all([share in ((0, 1), (1, 1)) for share in value]):
        raise InvalidLot(value)
    return tuple([place for place, share in enumerate(value) if share == (1, 1)])


def _is_share(value):
    """Whether any value is a ratio that is not below 0."""
    return is_ratio(value) and value[0] >= 0


def _standings(wishes):
    """For each member its standings of the groups that may have a share."""
    collection = wishes.collection
    orders = []
    for member, ranks in enumerate(rank_table(wishes)):
        order = [place for _, place in sorted([(ranks[own], own) for own in ranks])]
        orders.append(order[:order.index(collection.place((member,))) + 1])
    rows = []
    for order in orders:
        good = [place for place in order if all([place in orders[other] for other in collection.groups[place]])]
        rows.append({place: at for at, place in enumerate(good)})
    return rows


def _calm_row(collection, standings, worst):
    """Some calm row for which the first members have these worst groups, None if there is none."""
    if len(worst) == collection.n:
        return _row_of(collection, worst)
    for place in standings[len(worst)]:
        if _may_be_worst(collection, standings, worst + (place,)):
            row = _calm_row(collection, standings, worst + (place,))
            if row is not None:
                return row
    return None


def _may_be_worst(collection, standings, worst):
    """Whether the first members may have these worst groups, if all but the last one may."""
    if worst[-1] in worst[:-1]:
        return False
    for member, own in enumerate(worst):
        ranks = standings[member]
        if any([place in ranks and ranks[place] > ranks[own] for place in worst]):
            return False
    last = len(worst) - 1
    for place in standings[last]:
        group = collection.groups[place]
        if group[-1] == last and all([standings[member][place] < standings[member][worst[member]] for member in group]):
            return False
    return True


def _row_of(collection, places):
    """The row of shares of the groups at n places alone, None if there is not just one."""
    rows = []
    for member in range(collection.n):
        rows.append([1 if member in collection.groups[place] else 0 for place in places] + [1])
    found = solved(rows)
    if found is None or min([a for a, _ in found]) < 0:
        return None
    row = [(0, 1)] * len(collection)
    for place, share in zip(places, found):
        row[place] = share
    return tuple(row)
