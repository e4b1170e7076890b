"""Point [12], and promise (4)."""

import unittest
from itertools import permutations

from anyvalues import (
    HOUSE, Tests, all_groups, all_strict_wishes, altered, due_calm, full_collection, odd_values, random_collection,
    shaped, strict_wishes)
from calmgroups.groups import Collection
from calmgroups.lapping import against, group_ring, group_ring_holds, laps_singly
from calmgroups.tops import tops
from calmgroups.wishes import Wishes


def with_alone(n, groups):
    return Collection(n, [(member,) for member in range(n)] + groups)


PAIRS = with_alone(3, [(0, 1), (1, 2), (0, 2)])
TWINS = with_alone(3, [(0, 1), (0, 1, 2)])
SQUARE = with_alone(4, [(0, 1), (1, 2), (2, 3), (0, 3)])
SINGLE = [
    Collection(1, [(0,)]), HOUSE, with_alone(2, []), with_alone(3, [(0, 1), (1, 2)]), with_alone(3, [(0, 1, 2)]),
    with_alone(4, [(0, 1), (1, 2), (2, 3)]), with_alone(4, [(0, 1, 2), (2, 3)]), with_alone(4, [(0, 1), (0, 2), (0, 3)]),
    with_alone(4, [(0, 3), (1, 2)]), with_alone(4, [(0, 1, 2, 3)]), with_alone(5, [(0, 1, 2), (2, 3, 4)]),
    with_alone(5, [(0, 4), (1, 3), (3, 4)]), with_alone(6, [(0, 1, 2, 3, 4, 5)]), with_alone(6, [(0, 1, 2), (3, 4, 5)]),
    with_alone(6, [(0, 1, 2), (3, 4, 5), (2, 3)]),
]
DOUBLE = [
    PAIRS, TWINS, SQUARE, with_alone(4, [(0, 1, 2), (1, 2, 3)]), with_alone(5, [(0, 1), (1, 2), (2, 3), (3, 4), (0, 4)]),
    with_alone(6, [(0, 1), (1, 2), (2, 3), (3, 4), (4, 5), (0, 5)]), with_alone(6, [(0, 1, 2), (2, 3, 4), (0, 4, 5)]),
    with_alone(6, [(0, 1), (2, 3), (3, 4), (2, 4)]), with_alone(6, all_groups(6)[6:24]), full_collection(5),
    with_alone(6, [(a, b) for a in range(6) for b in range(a + 1, 6)]),
    with_alone(6, [(a, b) for a in range(3) for b in range(3, 6)]), with_alone(4, [(0, 1, 2, 3), (0, 1, 2), (0, 1)]),
]


def collections():
    """Collections of all sizes, some that lap singly among them."""
    few = [Collection(found.n, [group for at, group in enumerate(found.groups) if len(group) == 1 or at % 3 == 0])
           for found in (random_collection(seed) for seed in range(80))]
    return SINGLE + DOUBLE + few + [random_collection(seed) for seed in range(60)]


def is_single(collection):
    """Whether the members and groups, joined where a group has a member, make no ring."""
    left = [set(group) for group in collection.groups]
    while any(left):
        # A group of one member, or a member of one group alone, is in no ring.
        ends = [(group, member) for group in left for member in group
                if len(group) == 1 or sum(member in other for other in left) == 1]
        if not ends:
            return False
        ends[0][0].discard(ends[0][1])
    return True


def is_due(collection, value):
    """Whether a value of any kind is a ring of groups."""
    if not shaped(value, ([int], [int])):
        return False
    places, members = value
    if not len(set(places)) == len(places) == len(set(members)) == len(members) >= 2:
        return False
    if not set(places) <= set(range(len(collection.groups))):
        return False
    groups = [collection.groups[place] for place in places]
    return all(member in one and member in two for member, one, two in zip(members, groups, groups[1:] + groups[:1]))


class Single(Tests):
    def test_small(self):
        for collection in SINGLE:
            self.assertIs(laps_singly(collection), True, collection.groups)
        for collection in DOUBLE:
            self.assertIs(laps_singly(collection=collection), False, collection.groups)

    def test_all_sizes(self):
        told = set()
        for collection in collections():
            told.add((collection.n, is_single(collection)))
            self.assertIs(laps_singly(collection), is_single(collection), collection.groups)
        self.assertEqual(len(told), 10)

    def test_all_strict_wishes_have_just_one_calm_lot(self):
        for collection in SINGLE[:10]:
            for wishes in all_strict_wishes(collection):
                places, left = tops(wishes)
                self.assertEqual(left, ())
                self.assertEqual(due_calm(wishes), [tuple(sorted(places))])

    def test_strict_wishes_of_chance_have_just_one_calm_lot(self):
        for collection in [found for found in collections() if laps_singly(found)]:
            for seed in range(5):
                wishes = strict_wishes(collection, seed)
                places, left = tops(wishes)
                self.assertEqual(left, ())
                self.assertEqual(due_calm(wishes), [tuple(sorted(places))])


class Ring(Tests):
    def test_rings(self):
        for collection in collections():
            if is_single(collection):
                self.undefined("single", group_ring, collection)
            else:
                ring = group_ring(collection)
                self.assertTrue(shaped(ring, ([int], [int])))
                self.assertIs(is_due(collection, ring), True, ring)
                self.same(group_ring(Collection(collection.n, list(collection.groups))), ring)
        self.undefined("single", group_ring, collection=HOUSE)

    def test_small(self):
        self.assertEqual(sorted(group_ring(TWINS)[0]), [3, 4])
        self.assertEqual(sorted(group_ring(TWINS)[1]), [0, 1])
        self.assertEqual(sorted(group_ring(SQUARE)[0]), [4, 5, 6, 7])


class Holds(Tests):
    def test_right_rings_also_turned(self):
        ring = ((3, 4, 5), (1, 2, 0))
        self.assertIs(group_ring_holds(value=ring, collection=PAIRS), True)
        for places, members in (ring, ((3, 5, 4), (0, 2, 1))):
            for at in range(3):
                value = (places[at:] + places[:at], members[at:] + members[:at])
                self.assertIs(group_ring_holds(PAIRS, value), True)
        for value in (((3, 4), (0, 1)), ((4, 3), (0, 1)), ((3, 4), (1, 0))):
            self.assertIs(group_ring_holds(TWINS, value), True)

    def test_wrong_rings(self):
        for value in (((3, 4), (1, 2)), ((3, 4), (1, 1)), ((3, 3), (0, 1)), ((3, 4, 5), (0, 1, 2)), ((3,), (0,)), ((), ()),
                      ((3, 4, 5), (1, 2)), ((3, 4), (1, 2, 0)), ([3, 4, 5], (1, 2, 0)), ((3, 4, 5), [1, 2, 0]),
                      [(3, 4, 5), (1, 2, 0)], ((3, 4, 5), (True, 2, 0)), ((3, 4, 5), (1, 2, False)), ((1, 2, 0), (3, 4, 5)),
                      ((3, 4, 6), (1, 2, 0)), ((3, 4, -1), (1, 2, 0)), ((3, 4, 5), (1, 2, 0), ()), ((3, 4, 5),),
                      ((3, 4, 5), (1, 2, 3)), ((3, 4, 5), (1, 2, -3)), ((3, 4, 5, 3, 4, 5), (1, 2, 0, 1, 2, 0))):
            self.assertIs(group_ring_holds(PAIRS, value), False, value)

    def test_changed_rings(self):
        told = set()
        for collection in DOUBLE + [random_collection(seed) for seed in range(30)]:
            if not is_single(collection):
                ring = group_ring(collection)
                for value in altered(ring):
                    told.add(is_due(collection, value))
                    self.assertIs(group_ring_holds(collection, value), is_due(collection, value), value)
        self.assertEqual(told, {True, False})

    def test_all_short_rings(self):
        for collection in (PAIRS, TWINS, with_alone(3, [(0, 1), (1, 2)]), with_alone(3, all_groups(3)[3:])):
            for length in (1, 2, 3):
                for places in permutations(range(len(collection)), length):
                    for members in permutations(range(3), length):
                        value = (places, members)
                        self.assertIs(group_ring_holds(collection, value), is_due(collection, value), value)

    def test_values_of_any_kind(self):
        for collection in (Collection(1, [(0,)]), HOUSE, PAIRS, SQUARE):
            for value in odd_values() + [(one, other) for one in odd_values() for other in odd_values()]:
                self.assertIs(group_ring_holds(collection, value), is_due(collection, value))


class Against(Tests):
    def test_against(self):
        counts = set()
        for collection in collections():
            if is_single(collection):
                self.undefined("single", against, collection)
            else:
                wishes = against(collection)
                self.assertIs(type(wishes), Wishes)
                self.assertEqual(wishes.collection, collection)
                self.assertTrue(all(len(set(row)) == len(row) for row in wishes.ranks))
                many = len(due_calm(wishes))
                self.assertNotEqual(many, 1, collection.groups)
                counts.add(min(many, 2))
                self.assertEqual(against(Collection(collection.n, collection.groups)), wishes)
        self.assertEqual(counts, {0, 2})
        self.undefined("single", against, collection=HOUSE)

    def test_rings_of_each_length(self):
        for n in range(3, 7):
            ring = with_alone(n, [(k, k + 1) for k in range(n - 1)] + [(0, n - 1)])
            self.assertEqual(len(due_calm(against(ring))), 0 if n % 2 else 2)


if __name__ == "__main__":
    unittest.main()
