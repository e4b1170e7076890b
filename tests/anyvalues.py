"""Values of every kind, and a comparison that tells a bool from an integer."""

import random

from calmgroups.errors import InvalidNumber
from calmgroups.groups import Collection
from calmgroups.wishes import Wishes

HOUSE = Collection(2, [(0,), (1,), (0, 1)])


def nested(depth):
    value = ()
    for _ in range(depth):
        value = (value,)
    return value


def odd_values():
    """Values that are no number, no group, no collection's groups and no ranks."""
    return [
        None, True, False, -1, -99, 10 ** 11, "", "0", "01", "(0,)", (), [], [0], [0, 1], [(0, 0)],
        (True,), (False,), (None,), ("0",), ((0, 0),), ((),), ([0],), (1, 0), (0, 0), (0, -1), (-1, 0), (0, 7),
        (False, 1), (0, True), (0, 1, None), (0, (1,)), nested(50), [nested(50)], tuple(range(1000)), [0] * 1000,
        HOUSE, (HOUSE,), [HOUSE], (0, HOUSE), Wishes(HOUSE, ((1, 0), (1, 0))), InvalidNumber(0), (InvalidNumber(0),),
    ]


def exact(value):
    """The value with the class of each of its parts beside it."""
    if isinstance(value, (list, tuple)):
        return (type(value), [exact(part) for part in value])
    return (type(value), value)


def random_collection(seed):
    chance = random.Random(seed)
    n = chance.randint(1, 6)
    groups = [(member,) for member in range(n)]
    for _ in range(chance.randint(0, 24)):
        group = tuple(member for member in range(n) if chance.random() < 0.5)
        if group and group not in groups and len(groups) < 24:
            groups.append(group)
    chance.shuffle(groups)
    return Collection(n, groups)


def random_wishes(seed):
    collection = random_collection(seed)
    chance = random.Random(seed)
    top = chance.choice([0, 1, 3, 99])
    return Wishes(collection, tuple(
        tuple(chance.randint(0, top) for _ in collection.places_of(member)) for member in range(collection.n)))
