"""Groups of members, and collections of groups."""

from calmgroups.checks import is_ascending, is_number_below
from calmgroups.errors import InvalidGroup, InvalidGroups, InvalidNumber

MOST_MEMBERS = 6
MOST_GROUPS = 24


def is_group(value, n):
    """Whether any value is an ascending tuple, not (), of members below n."""
    return is_ascending(value, n) and len(value) > 0


def _are_groups(value, n):
    """Whether any value is what a collection of n members can be made of."""
    if not isinstance(value, (list, tuple)) or len(value) > MOST_GROUPS:
        return False
    if not all([is_group(group, n) for group in value]):
        return False
    if len(set(value)) < len(value):
        return False
    return all([(member,) in value for member in range(n)])


def in_plain_order(groups):
    """Less members first; of as many members the one that comes first in dictionary order."""
    return sorted(sorted(groups), key=len)


class Collection:
    """Groups of the members 0 to n - 1, each member alone among them; it never changes."""

    def __init__(self, n, groups):
        if not is_number_below(n, MOST_MEMBERS + 1) or n == 0:
            raise InvalidNumber(n)
        if not _are_groups(groups, n):
            raise InvalidGroups(groups)
        self.n = n
        # A tuple of a class of its own is taken, too, but a plain one is kept.
        self.groups = tuple([tuple(group) for group in groups])

    def __len__(self):
        return len(self.groups)

    def __eq__(self, other):
        if not isinstance(other, Collection):
            return False
        return self.n == other.n and self.groups == other.groups

    def places_of(self, member):
        """The places of the groups that have this member, ascending."""
        if not is_number_below(member, self.n):
            raise InvalidNumber(member)
        return tuple([place for place, group in enumerate(self.groups) if member in group])

    def place(self, group):
        """The place of one of the groups."""
        # Without is_group a group with a bool in it would be found like its twin.
        if not is_group(group, self.n) or group not in self.groups:
            raise InvalidGroup(group)
        return self.groups.index(group)

    def with_group(self, group):
        """The collection with one more group behind the others."""
        if not is_group(group, self.n) or group in self.groups or len(self.groups) == MOST_GROUPS:
            raise InvalidGroup(group)
        return Collection(self.n, self.groups + (group,))

    def without(self, place):
        """The collection without the group of two or more at this place."""
        if not is_number_below(place, len(self.groups)) or len(self.groups[place]) == 1:
            raise InvalidNumber(place)
        return Collection(self.n, self.groups[:place] + self.groups[place + 1:])


def groups_of(collection, member):
    """The groups that have this member, in the order of their places."""
    return [group for group in collection.groups if member in group]
