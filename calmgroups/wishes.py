"""The wishes of members about the groups of a collection, and their plain form."""

from calmgroups.checks import is_number_below, is_tuple_of
from calmgroups.errors import InvalidNumber, InvalidRanks
from calmgroups.groups import Collection, groups_of, in_plain_order

MOST_RANK = 99


def is_rank(value):
    """Whether any value is what a member may rank a group by."""
    return is_number_below(value, MOST_RANK + 1)


def _are_ranks(collection, value):
    """Whether any value has for each member a rank for each of its groups."""
    if not isinstance(value, tuple) or len(value) != collection.n:
        return False
    return all([is_tuple_of(row, len(groups_of(collection, member)), is_rank) for member, row in enumerate(value)])


class Wishes:
    """For each member a rank of each of its groups, less is better; they never change."""

    def __init__(self, collection, ranks):
        if not _are_ranks(collection, ranks):
            raise InvalidRanks(ranks)
        self.collection = collection
        # A tuple of a class of its own is taken, too, but a plain one is kept.
        self.ranks = tuple([tuple(row) for row in ranks])

    def __eq__(self, other):
        if not isinstance(other, Wishes):
            return False
        return self.collection == other.collection and self.ranks == other.ranks

    def __str__(self):
        return "\n".join(_lines(plain(self)))

    def rank(self, member, place):
        """The member's rank of its group at this place."""
        places = self.collection.places_of(member)
        # A bool would be found among the places like its twin.
        if not is_number_below(place, len(self.collection)) or place not in places:
            raise InvalidNumber(place)
        return self.ranks[member][places.index(place)]


def is_strict(wishes):
    """Whether no member likes two of its groups as much."""
    return all([len(set(row)) == len(row) for row in wishes.ranks])


def rank_table(wishes):
    """For each member its ranks of its groups, by the places of these."""
    collection = wishes.collection
    return [dict(zip(collection.places_of(member), row)) for member, row in enumerate(wishes.ranks)]


def plain(wishes):
    """The same wishes with the groups in plain order and with ranks 0, 1 and so on."""
    collection = wishes.collection
    groups = in_plain_order(collection.groups)
    rows = [_plain_row(wishes, member, groups) for member in range(collection.n)]
    return Wishes(Collection(collection.n, groups), tuple(rows))


def _plain_row(wishes, member, groups):
    """The member's ranks, without gaps, of its groups in the order of groups."""
    collection = wishes.collection
    row = [wishes.rank(member, collection.place(group)) for group in groups if member in group]
    steps = sorted(set(row))
    return tuple([steps.index(rank) for rank in row])


def _lines(wishes):
    """The lines of the text of wishes that are in plain form."""
    return [_line(wishes, member) for member in range(wishes.collection.n)]


def _line(wishes, member):
    """The member's line, for wishes in plain form."""
    ranks = wishes.ranks[member]
    steps = [_step(wishes, member, rank) for rank in range(max(ranks) + 1)]
    return f"{member}: " + " > ".join(steps)


def _step(wishes, member, rank):
    """The member's groups of one rank, in the order of their places."""
    collection = wishes.collection
    places = [place for place in collection.places_of(member) if wishes.rank(member, place) == rank]
    return " = ".join([_figures(collection.groups[place]) for place in places])


def _figures(group):
    return "".join([str(member) for member in group])
