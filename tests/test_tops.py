"""Point [11], and promise (3)."""

import unittest
from itertools import product

from anyvalues import (
    HOUSE, Tests, all_groups, altered, due_calm, likings, odd_values, random_collection, random_wishes, shaped,
    strict_wishes)
from calmgroups.errors import InvalidMembers
from calmgroups.groups import Collection
from calmgroups.tops import ring_of_wishes_holds, tops, wish_ring
from calmgroups.wishes import Wishes

PAIRS = Collection(3, [(0,), (1,), (2,), (0, 1), (1, 2), (0, 2)])
CIRCLE = Wishes(PAIRS, ((2, 0, 1), (2, 1, 0), (2, 1, 0)))
RING = ((3, 1), (4, 2), (5, 0))
TRIO = Collection(3, [(0,), (1,), (2,), (0, 1), (0, 1, 2)])


def within(wishes, members):
    """The places of the groups of these members alone."""
    return [place for place, group in enumerate(wishes.collection.groups) if set(group) <= set(members)]


def due_tops(wishes, members):
    """The places of all top groups among these members."""
    told, places = likings(wishes), within(wishes, members)
    return [place for place in places if not any(
        told[member][other] < told[member][place]
        for member in wishes.collection.groups[place] for other in places if other in told[member])]


def due_way(wishes):
    left, taken = list(range(wishes.collection.n)), []
    while due_tops(wishes, left):
        taken.append(min(due_tops(wishes, left)))
        left = [member for member in left if member not in wishes.collection.groups[taken[-1]]]
    return (tuple(taken), tuple(left))


def is_due(wishes, members, value):
    """Whether a value of any kind is a ring of wishes among members of any kind."""
    n, told = wishes.collection.n, likings(wishes)
    if members not in all_groups(n) or not shaped(members, [int]):
        return False
    if not shaped(value, [(int, int)]) or len(value) < 2 or len({place for place, _ in value}) < len(value):
        return False
    for (place, member), (following, _) in zip(value, value[1:] + value[:1]):
        if place not in within(wishes, members) or member not in range(n):
            return False
        if place not in told[member] or following not in told[member]:
            return False
        if told[member][following] >= told[member][place]:
            return False
    return True


def wishes_of_all_sizes():
    return [random_wishes(seed) for seed in range(150)] + [
        strict_wishes(random_collection(seed), seed) for seed in range(150)]


class Way(Tests):
    def test_small(self):
        self.same(tops(Wishes(HOUSE, ((1, 0), (1, 0)))), ((2,), ()))
        self.same(tops(wishes=Wishes(HOUSE, ((1, 0), (0, 1)))), ((1, 0), ()))
        self.same(tops(CIRCLE), ((), (0, 1, 2)))
        self.same(tops(Wishes(Collection(1, [(0,)]), ((9,),))), ((0,), ()))

    def test_the_least_place_first(self):
        self.same(tops(Wishes(PAIRS, ((0, 0, 0), (0, 0, 0), (0, 0, 0)))), ((0, 1, 2), ()))
        self.same(tops(Wishes(TRIO, ((1, 0, 0), (1, 0, 0), (1, 0)))), ((3, 2), ()))
        self.same(tops(Wishes(TRIO, ((2, 1, 0), (2, 1, 0), (1, 0)))), ((4,), ()))
        self.same(tops(Wishes(TRIO, ((2, 1, 0), (2, 1, 0), (0, 1)))), ((2, 3), ()))

    def test_some_members_left(self):
        collection = Collection(4, [(0,), (1,), (2,), (3,), (0, 1), (1, 2), (0, 2), (2, 3)])
        wishes = Wishes(collection, ((2, 0, 1), (2, 1, 0), (3, 2, 1, 0), (0, 1)))
        self.same(tops(wishes), ((3,), (0, 1, 2)))
        self.assertIs(is_due(wishes, (0, 1, 2), wish_ring(wishes, (0, 1, 2))), True)
        self.undefined("top", wish_ring, wishes, (0, 1, 2, 3))

    def test_all_sizes(self):
        ends = set()
        for wishes in wishes_of_all_sizes():
            places, left = tops(wishes)
            self.same((places, left), due_way(wishes))
            calm = due_calm(wishes)
            if left == ():
                self.assertIn(tuple(sorted(places)), calm)
                if all(len(set(row)) == len(row) for row in wishes.ranks):
                    self.assertEqual(calm, [tuple(sorted(places))])
            else:
                self.assertIs(is_due(wishes, left, wish_ring(wishes, left)), True)
            ends.add((wishes.collection.n, left == ()))
        self.assertLessEqual({(n, True) for n in range(1, 7)} | {(n, False) for n in range(3, 7)}, ends)


class Ring(Tests):
    def test_circle(self):
        ring = wish_ring(CIRCLE, (0, 1, 2))
        self.assertIn(ring, [RING, RING[1:] + RING[:1], RING[2:] + RING[:2]])
        self.same(wish_ring(members=(0, 1, 2), wishes=CIRCLE), ring)

    def test_all_members_of_all_sizes(self):
        rings = 0
        for wishes in wishes_of_all_sizes():
            for members in all_groups(wishes.collection.n):
                if due_tops(wishes, members):
                    self.undefined("top", wish_ring, wishes, members)
                else:
                    ring = wish_ring(wishes, members)
                    self.assertTrue(shaped(ring, [(int, int)]))
                    self.assertIs(is_due(wishes, members, ring), True, ring)
                    self.same(wish_ring(Wishes(wishes.collection, wishes.ranks), members), ring)
                    rings += 1
        self.assertGreater(rings, 100)

    def test_the_walk_may_begin_ahead_of_the_ring(self):
        collection = Collection(4, [(0,), (1,), (2,), (3,), (0, 1), (1, 2), (2, 3), (1, 3)])
        wishes = Wishes(collection, ((1, 0), (3, 2, 0, 1), (2, 1, 0), (2, 1, 0)))
        ring = wish_ring(wishes, (0, 1, 2, 3))
        self.assertIs(is_due(wishes, (0, 1, 2, 3), ring), True)
        self.assertEqual(sorted(place for place, _ in ring), [5, 6, 7])

    def test_wrong_members(self):
        for members in odd_values() + [
                (), [0, 1, 2], [0], (1, 0), (0, 0), (0, 3), (3,), (0, 1, 2, 3), (True,), (0, True), (False, 1, 2), (-1, 0)]:
            self.refuses(InvalidMembers, members, wish_ring, CIRCLE, members)
        self.refuses(InvalidMembers, None, wish_ring, members=None, wishes=CIRCLE)

    def test_a_top_group(self):
        self.undefined("top", wish_ring, CIRCLE, (0, 1))
        self.undefined("top", wish_ring, CIRCLE, (2,))
        self.undefined("top", wish_ring, Wishes(HOUSE, ((0, 1), (1, 0))), (0, 1))


class Holds(Tests):
    def test_right_rings_also_turned(self):
        for at in range(3):
            self.assertIs(ring_of_wishes_holds(CIRCLE, (0, 1, 2), RING[at:] + RING[:at]), True)
        self.assertIs(ring_of_wishes_holds(value=RING, members=(0, 1, 2), wishes=CIRCLE), True)

    def test_wrong_rings(self):
        for value in (RING[:2], RING[:1], (), RING + RING, RING[::-1], list(RING), tuple(list(pair) for pair in RING),
                      ((3, 0), (4, 1), (5, 2)), ((3, True), (4, 2), (5, 0)), ((3, 1), (4, 2), (5, False)),
                      ((3, 1, 0), (4, 2), (5, 0)), ((3, 1), (4, 2), (5, 3)), ((3, 1), (4, 2), (6, 0)),
                      ((3, 1), (4, 2), (-1, 0)), ((3, 1), (4, 2), (5, -1))):
            self.assertIs(ring_of_wishes_holds(CIRCLE, (0, 1, 2), value), False, value)

    def test_among_other_members(self):
        for members in odd_values() + [(0, 1), (1, 2), (0, 2), [0, 1, 2], (0, 1, 2, 3), (2, 1, 0), (False, 1, 2), (0, True, 2)]:
            self.assertIs(ring_of_wishes_holds(CIRCLE, members, RING), False, members)

    def test_where_there_is_a_top_group(self):
        collection = Collection(4, PAIRS.groups + ((3,),))
        wishes = Wishes(collection, CIRCLE.ranks + ((0,),))
        self.assertIs(ring_of_wishes_holds(wishes, (0, 1, 2, 3), RING), True)
        self.undefined("top", wish_ring, wishes, (0, 1, 2, 3))

    def test_a_ring_of_two(self):
        collection = Collection(3, [(0,), (1,), (2,), (0, 1, 2), (0, 1)])
        wishes = Wishes(collection, ((2, 0, 1), (2, 1, 0), (1, 0)))
        self.assertIs(ring_of_wishes_holds(wishes, (0, 1, 2), ((3, 1), (4, 0))), True)
        self.assertIs(ring_of_wishes_holds(wishes, (0, 1, 2), ((3, 0), (4, 1))), False)
        self.assertIs(ring_of_wishes_holds(wishes, (0, 1), ((3, 1), (4, 0))), False)

    def test_changed_rings(self):
        told = set()
        for wishes in wishes_of_all_sizes()[::3]:
            members = due_way(wishes)[1]
            if members:
                ring = wish_ring(wishes, members)
                for value in altered(ring) + odd_values():
                    told.add(is_due(wishes, members, value))
                    self.assertIs(ring_of_wishes_holds(wishes, members, value), is_due(wishes, members, value), value)
                for others in altered(members):
                    self.assertIs(ring_of_wishes_holds(wishes, others, ring), is_due(wishes, others, ring), others)
        self.assertEqual(told, {True, False})

    def test_all_short_rings(self):
        for wishes in (CIRCLE, Wishes(TRIO, ((0, 1, 2), (2, 1, 0), (0, 1))), Wishes(PAIRS, ((0, 0, 1), (2, 1, 0), (1, 0, 1)))):
            pairs = list(product(range(len(wishes.collection)), range(3)))
            for members in ((0, 1, 2), (0, 1)):
                for value in list(product(pairs, repeat=2)) + list(product(pairs, repeat=3)):
                    self.assertIs(ring_of_wishes_holds(wishes, members, value), is_due(wishes, members, value))

    def test_values_of_any_kind(self):
        for members in odd_values():
            for value in odd_values():
                self.assertIs(ring_of_wishes_holds(CIRCLE, members, value), False)


if __name__ == "__main__":
    unittest.main()
