"""Values of every kind, a comparison that tells a bool from an integer, and what tests share."""

import random
import unittest
from itertools import combinations, permutations, product

from calmgroups.errors import InvalidNumber, Undefined
from calmgroups.groups import Collection
from calmgroups.wishes import Wishes

HOUSE = Collection(2, [(0,), (1,), (0, 1)])


class Tests(unittest.TestCase):
    def refuses(self, error, value, function, /, *args, **named):
        """The call raises just this error, which keeps just this value."""
        with self.assertRaises(error) as caught:
            function(*args, **named)
        self.assertIs(type(caught.exception), error)
        self.assertIs(caught.exception.value, value)

    def undefined(self, what, function, /, *args, **named):
        """The call raises Undefined with just this word."""
        with self.assertRaises(Undefined) as caught:
            function(*args, **named)
        self.assertIs(type(caught.exception), Undefined)
        self.assertEqual(exact(caught.exception.what), exact(what))

    def same(self, one, other):
        """Both are equal and of the same kinds, also within."""
        self.assertEqual(exact(one), exact(other))


def nested(depth):
    value = ()
    for _ in range(depth):
        value = (value,)
    return value


def odd_values():
    """Values that are no number, no group, no collection's groups and no ranks."""
    return [
        None, True, False, -1, -99, 10 ** 11, "", "0", "01", "(0,)", (), [], [0], [0, 1], [(0, 0)],
        (True,), (False,), (None,), ("0",), ((0, 0),), ((),), ([0],), (1, 0), (0, 0), (0, -1), (-1, 0), (0, 7),
        (False, 1), (0, True), (0, 1, None), (0, (1,)), nested(50), [nested(50)], tuple(range(1000)), [0] * 1000,
        HOUSE, (HOUSE,), [HOUSE], (0, HOUSE), Wishes(HOUSE, ((1, 0), (1, 0))), InvalidNumber(0), (InvalidNumber(0),),
    ]


def exact(value):
    """The value with the class of each of its parts beside it."""
    if isinstance(value, (list, tuple)):
        return (type(value), [exact(part) for part in value])
    return (type(value), value)


def shaped(value, shape):
    """Whether the value is a plain tuple, integer and so on, as the shape tells, also within.

    A class stands for a value of just this class, a list of one shape for a tuple of any
    length of such, a tuple of shapes for a tuple of just these.
    """
    if isinstance(shape, list):
        return type(value) is tuple and all(shaped(part, shape[0]) for part in value)
    if isinstance(shape, tuple):
        return (type(value) is tuple and len(value) == len(shape)
                and all(shaped(part, inner) for part, inner in zip(value, shape)))
    return type(value) is shape


def altered(value):
    """Values that are unlike this one at one place, without or within."""
    if not isinstance(value, tuple):
        others = [None, True, False, -1, 10 ** 11, "", "0", str(value), (value,), [value], [], ()]
        if isinstance(value, int):
            others += [value - 1, value + 1, value + 2]
        return others
    others = [list(value), value[1:], value[:-1], value[1:] + value[:1], value[::-1], value * 2, value[0:2], (value,)]
    others += [value + (extra,) for extra in (None, 0, (), value)]
    for at, part in enumerate(value):
        others += [value[:at] + value[at + 1:], value[:at] + (part,) + value[at:]]
        others += [value[:at] + (part,) + value[at + 1:] for part in value]
        others += [value[:at] + (other,) + value[at + 1:] for other in altered(part)]
    return others


def all_groups(n):
    """All groups of n members."""
    return [group for size in range(1, n + 1) for group in combinations(range(n), size)]


def random_collection(seed):
    chance = random.Random(seed)
    n = chance.randint(1, 6)
    groups = [(member,) for member in range(n)]
    for _ in range(chance.randint(0, 24)):
        group = tuple(member for member in range(n) if chance.random() < 0.5)
        if group and group not in groups and len(groups) < 24:
            groups.append(group)
    chance.shuffle(groups)
    return Collection(n, groups)


def random_wishes(seed):
    collection = random_collection(seed)
    chance = random.Random(seed)
    top = chance.choice([0, 1, 3, 99])
    return Wishes(collection, tuple(
        tuple(chance.randint(0, top) for _ in collection.places_of(member)) for member in range(collection.n)))


def strict_wishes(collection, seed):
    """Strict wishes of chance for the collection."""
    chance = random.Random(seed)
    return Wishes(collection, tuple(
        tuple(chance.sample(range(100), len(collection.places_of(member)))) for member in range(collection.n)))


def all_strict_wishes(collection):
    """All strict wishes for the collection, up to the ranks that tell the same."""
    rows = [list(permutations(range(len(collection.places_of(member))))) for member in range(collection.n)]
    return [Wishes(collection, ranks) for ranks in product(*rows)]


def likings(wishes):
    """For each member its ranks by place."""
    groups = wishes.collection.groups
    found = []
    for member, row in enumerate(wishes.ranks):
        places = [place for place, group in enumerate(groups) if member in group]
        found.append({place: rank for place, rank in zip(places, row, strict=True)})
    return found


def splits(members):
    """All ways to put the members in groups, each a list of groups."""
    if not members:
        return [[]]
    found = []
    for many in range(len(members)):
        for others in combinations(members[1:], many):
            rest = [member for member in members[1:] if member not in others]
            found += [[(members[0],) + others] + split for split in splits(rest)]
    return found


def due_lots(collection):
    """All lots, in dictionary order, found by all ways to put the members in groups."""
    places = {group: place for place, group in enumerate(collection.groups)}
    told = [split for split in splits(list(range(collection.n))) if all(group in places for group in split)]
    return sorted(tuple(sorted(places[group] for group in split)) for split in told)


def own_of(wishes, lot):
    """For each member its rank of its own group in the lot."""
    told = likings(wishes)
    return [next(told[member][place] for place in lot if place in told[member]) for member in range(wishes.collection.n)]


def does_leave(wishes, lot, place):
    """Whether the group at this place leaves the lot."""
    told, own = likings(wishes), own_of(wishes, lot)
    return all(told[member][place] < own[member] for member in wishes.collection.groups[place])


def due_calm(wishes):
    """All calm lots, in dictionary order."""
    places = range(len(wishes.collection.groups))
    return [lot for lot in due_lots(wishes.collection) if not any(does_leave(wishes, lot, place) for place in places)]


def full_collection(seed):
    """24 groups of six members."""
    chance = random.Random(seed)
    more = [group for group in all_groups(6) if len(group) > 1]
    groups = [(member,) for member in range(6)] + chance.sample(more, 18)
    chance.shuffle(groups)
    return Collection(6, groups)


def of_pairs(n, pairs):
    """The members alone, and these pairs behind them."""
    return Collection(n, [(member,) for member in range(n)] + list(pairs))


def random_pairs(seed):
    """A collection of pairs of 1 to 6 members, its groups in an order of chance."""
    chance = random.Random(seed)
    n = chance.randint(1, 6)
    pairs = list(combinations(range(n), 2))
    groups = [(member,) for member in range(n)] + chance.sample(pairs, chance.randint(0, len(pairs)))
    chance.shuffle(groups)
    return Collection(n, groups)


def random_two_sides(seed):
    """A collection of pairs of chance that has two sides."""
    chance = random.Random(seed)
    n = chance.randint(1, 6)
    row = [chance.randint(0, 1) for _ in range(n)]
    pairs = [(a, b) for a, b in combinations(range(n), 2) if row[a] != row[b] and chance.random() < 0.8]
    groups = [(member,) for member in range(n)] + pairs
    chance.shuffle(groups)
    return Collection(n, groups)


def by_lists(*lists):
    """The strict wishes of pairs in which each member likes the members of its list, best first, then itself.

    Pairs that a member does not list are not in the collection.
    """
    n = len(lists)
    collection = of_pairs(n, [(a, b) for a, b in combinations(range(n), 2) if b in lists[a] and a in lists[b]])
    rows = []
    for member, liked in enumerate(lists):
        order = [tuple(sorted((member, other))) for other in liked] + [(member,)]
        rows.append(tuple(order.index(group) for group in collection.groups if member in group))
    return Wishes(collection, tuple(rows))


def odd_circle(n):
    """Each of n members likes the next one best, then the last one."""
    return by_lists(*[[(member + 1) % n, (member - 1) % n] for member in range(n)])
