"""Points [15] and [16], and promises (7) and (8)."""

import unittest
from itertools import combinations, permutations, product

from anyvalues import (
    HOUSE, Tests, all_groups, altered, by_lists, due_calm, exact, full_collection, odd_circle, odd_values, of_pairs,
    own_of, random_collection, random_pairs, random_two_sides, shaped, strict_wishes)
from calmgroups.errors import InvalidKind, Undefined
from calmgroups.groups import Collection
from calmgroups.pairs import against_pairs, is_pairs, odd_ring, odd_ring_holds, proposed, sides
from calmgroups.wishes import Wishes

ONE = Collection(1, [(0,)])
TRIANGLE = of_pairs(3, [(0, 1), (1, 2), (0, 2)])
SQUARE = of_pairs(4, [(0, 1), (1, 2), (2, 3), (0, 3)])
FIVE = of_pairs(5, [(0, 2), (2, 4), (1, 4), (1, 3), (0, 3)])
GREATER = Collection(4, [(0,), (1,), (2,), (3,), (0, 1), (1, 2), (0, 2), (0, 1, 2)])
# A greater group that hides among pairs, last and first, of two sides and without.
GREATERS = [
    GREATER, Collection(3, [(0, 1, 2), (0,), (1,), (2,)]), Collection(3, [(0,), (1,), (2,), (0, 1), (0, 1, 2)]),
    Collection(6, [(member,) for member in range(6)] + [(0, 1), (0, 1, 2, 3, 4, 5)]), full_collection(1),
]
WRONG_SIDES = (True, False, 2, -1, None, "0", "1", (0,), (1,), [0], (), HOUSE)


def graphs(n):
    """All collections of pairs of n members."""
    pairs = list(combinations(range(n), 2))
    return [of_pairs(n, chosen) for many in range(len(pairs) + 1) for chosen in combinations(pairs, many)]


def collections():
    """Collections of pairs of all sizes, of two sides and not."""
    found = [collection for n in range(1, 5) for collection in graphs(n)]
    return (found + [ONE, HOUSE, TRIANGLE, SQUARE, FIVE] + [random_pairs(seed) for seed in range(150)]
            + [random_two_sides(seed) for seed in range(100)])


def due_sides(collection):
    """The sides, with that of the least member of each part 0; None if there are none."""
    pairs = [group for group in collection.groups if len(group) == 2]
    row = {}
    for start in range(collection.n):
        row.setdefault(start, 0)
        for _ in range(6):
            for a, b in pairs:
                for one, other in ((a, b), (b, a)):
                    if one in row:
                        row.setdefault(other, 1 - row[one])
    if any(row[a] == row[b] for a, b in pairs):
        return None
    return tuple(row[member] for member in range(collection.n))


def is_due(collection, value):
    """Whether a value of any kind is an odd ring of a collection of pairs."""
    if any(len(group) > 2 for group in collection.groups) or not shaped(value, [int]):
        return False
    if len(value) not in (3, 5) or len(set(value)) < len(value):
        return False
    groups = [set(group) for group in collection.groups]
    return all({one, other} in groups for one, other in zip(value, value[1:] + value[:1]))


class IsPairs(Tests):
    def test_small(self):
        self.assertIs(is_pairs(ONE), True)
        self.assertIs(is_pairs(collection=HOUSE), True)
        self.assertIs(is_pairs(TRIANGLE), True)
        self.assertIs(is_pairs(Collection(3, [(0,), (1,), (2,)])), True)
        for collection in GREATERS:
            self.assertIs(is_pairs(collection), False)

    def test_all_sizes(self):
        for collection in collections():
            self.assertIs(is_pairs(collection), True)
        told = set()
        for seed in range(100):
            collection = random_collection(seed)
            told.add(is_pairs(collection))
            self.assertIs(is_pairs(collection), max(map(len, collection.groups)) < 3)
        self.assertEqual(told, {True, False})


class Sides(Tests):
    def test_small(self):
        self.same(sides(ONE), (0,))
        self.same(sides(collection=HOUSE), (0, 1))
        self.same(sides(Collection(3, [(0,), (1,), (2,)])), (0, 0, 0))
        self.same(sides(SQUARE), (0, 1, 0, 1))
        self.same(sides(of_pairs(6, [(1, 5), (2, 4), (3, 4)])), (0, 0, 0, 0, 1, 1))
        self.same(sides(of_pairs(6, [(0, 5), (4, 5), (3, 4), (2, 3), (1, 2)])), (0, 1, 0, 1, 0, 1))

    def test_all_collections(self):
        told = set()
        for collection in collections():
            due = due_sides(collection)
            told.add(due is None)
            if due is None:
                self.undefined("sides", sides, collection)
            else:
                self.same(sides(collection), due)
        self.assertEqual(told, {True, False})

    def test_pairs_ahead_of_sides(self):
        for collection in GREATERS:
            self.undefined("pairs", sides, collection)
        self.undefined("pairs", sides, collection=GREATER)
        self.undefined("sides", sides, collection=TRIANGLE)


class OddRing(Tests):
    def test_rings(self):
        lengths = set()
        for collection in collections():
            if due_sides(collection) is None:
                ring = odd_ring(collection)
                self.assertTrue(is_due(collection, ring), ring)
                self.same(odd_ring(Collection(collection.n, list(collection.groups))), ring)
                self.assertIs(odd_ring_holds(collection, ring), True)
                lengths.add(len(ring))
            else:
                self.undefined("odd", odd_ring, collection)
        self.assertEqual(lengths, {3, 5})

    def test_five_members(self):
        self.assertEqual(sorted(odd_ring(collection=FIVE)), [0, 1, 2, 3, 4])
        self.assertTrue(is_due(FIVE, odd_ring(FIVE)))

    def test_pairs_ahead_of_odd(self):
        for collection in GREATERS:
            self.undefined("pairs", odd_ring, collection)
            self.undefined("pairs", against_pairs, collection)
        self.undefined("odd", odd_ring, collection=SQUARE)
        self.undefined("odd", against_pairs, collection=SQUARE)


class OddRingHolds(Tests):
    def test_right_rings_also_turned(self):
        for collection, ring in ((TRIANGLE, (0, 1, 2)), (FIVE, (0, 2, 4, 1, 3))):
            for way in (ring, ring[::-1]):
                for at in range(len(ring)):
                    self.assertIs(odd_ring_holds(collection, way[at:] + way[:at]), True)
        self.assertIs(odd_ring_holds(value=(2, 0, 1), collection=TRIANGLE), True)

    def test_wrong_rings(self):
        for value in ((0, 1), (0,), (), (0, 1, 2, 0), (0, 1, 1), (0, 0, 0), (True, 2, 0), (0, 1, True), (False, 1, 2),
                      [0, 1, 2], (0, 1, 3), (0, 1, -1), (0, 1, 2, 0, 1), ((0, 1), (1, 2), (0, 2)), (3, 4, 5), "012"):
            self.assertIs(odd_ring_holds(TRIANGLE, value), False, value)
        for value in ((0, 1, 2, 3), (0, 1, 2), (1, 2, 3), (0, 2, 1)):
            self.assertIs(odd_ring_holds(SQUARE, value), False, value)
        for value in ((0, 2, 4, 1), (0, 2, 4), (2, 4, 1), (0, 2, 4, 3, 1), (0, 1, 2, 3, 4), (0, 2, 4, 1, 3, 0)):
            self.assertIs(odd_ring_holds(FIVE, value), False, value)

    def test_all_rows(self):
        told = set()
        for collection in (graphs(3) + graphs(4)[::5] + [FIVE, random_pairs(5), random_pairs(8)]):
            for length in range(7):
                for value in permutations(range(collection.n), length):
                    told.add((len(value), is_due(collection, value)))
                    self.assertIs(odd_ring_holds(collection, value), is_due(collection, value), value)
        self.assertTrue({(3, True), (5, True), (4, False)} <= told)
        self.assertFalse({(4, True), (2, True), (6, True)} & told)

    def test_changed_rings(self):
        for collection in collections()[::3]:
            if due_sides(collection) is None:
                for value in altered(odd_ring(collection)):
                    self.assertIs(odd_ring_holds(collection, value), is_due(collection, value), value)

    def test_values_of_any_kind(self):
        for collection in (ONE, HOUSE, TRIANGLE, SQUARE, FIVE, GREATER):
            for value in odd_values() + [(one, one, one) for one in odd_values()]:
                self.assertIs(odd_ring_holds(collection, value), False)

    def test_collections_that_are_not_of_pairs(self):
        for value in ((0, 1, 2), (1, 2, 0), (2, 1, 0)):
            self.assertIs(odd_ring_holds(GREATER, value), False)
            self.assertIs(odd_ring_holds(GREATERS[-1], value), False)


class AgainstPairs(Tests):
    def test_no_calm_lot(self):
        told = set()
        for collection in collections():
            if due_sides(collection) is None:
                wishes = against_pairs(collection)
                self.assertIs(type(wishes), Wishes)
                self.assertEqual(wishes.collection, collection)
                self.assertTrue(all(len(set(row)) == len(row) for row in wishes.ranks))
                self.assertEqual(due_calm(wishes), [])
                self.assertEqual(against_pairs(Collection(collection.n, collection.groups)), wishes)
                told.add(collection.n)
            else:
                self.undefined("odd", against_pairs, collection)
                for seed in range(3):
                    self.assertNotEqual(due_calm(strict_wishes(collection, seed)), [])
        self.assertEqual(told, {3, 4, 5, 6})

    def test_every_strict_wishes_have_a_calm_lot_with_two_sides(self):
        for seed in range(300):
            self.assertNotEqual(due_calm(strict_wishes(random_two_sides(seed), seed)), [])


# The sides like each other the other way round, so there are several calm lots.
CIRCLES = [
    by_lists([2, 3], [3, 2], [1, 0], [0, 1]),
    by_lists([3, 4, 5], [4, 5, 3], [5, 3, 4], [1, 2, 0], [2, 0, 1], [0, 1, 2]),
    by_lists([1, 3], [2, 0], [3, 1], [0, 2], [5], [4]),
    by_lists([2, 3], [3, 2], [1, 0, 4], [0, 1], [2], []),
]


def strict_two_sides():
    """Strict wishes of pairs of two sides, of 1 to 6 members."""
    return CIRCLES + [strict_wishes(random_two_sides(seed), seed) for seed in range(250)]


class Proposed(Tests):
    def test_small(self):
        wishes = CIRCLES[0]
        self.same(wishes.collection.groups[4:], ((0, 2), (0, 3), (1, 2), (1, 3)))
        self.same(proposed(wishes, 0), (4, 7))
        self.same(proposed(wishes, 1), (5, 6))
        self.same(proposed(side=1, wishes=wishes), (5, 6))
        self.same(proposed(Wishes(ONE, ((7,),)), 0), (0,))
        self.same(proposed(Wishes(ONE, ((7,),)), 1), (0,))
        self.same(proposed(Wishes(HOUSE, ((1, 0), (1, 0))), 0), (2,))
        self.same(proposed(Wishes(HOUSE, ((1, 0), (0, 1))), 1), (0, 1))

    def test_best_of_one_side_and_worst_of_the_other(self):
        many = set()
        for wishes in strict_two_sides():
            row, calm = due_sides(wishes.collection), due_calm(wishes)
            many.add(len(calm))
            for side in (0, 1):
                lot = proposed(wishes, side)
                self.assertTrue(shaped(lot, [int]))
                self.assertIn(lot, calm)
                own = own_of(wishes, lot)
                for other in calm:
                    ranks = own_of(wishes, other)
                    for member in range(wishes.collection.n):
                        if row[member] == side:
                            self.assertLessEqual(own[member], ranks[member])
                        else:
                            self.assertGreaterEqual(own[member], ranks[member])
        self.assertTrue({1, 2, 3} <= many, many)

    def test_the_same_members_are_alone_in_all_calm_lots(self):
        told = set()
        for wishes in strict_two_sides():
            groups = wishes.collection.groups
            alone = {tuple(groups[place] for place in lot if len(groups[place]) == 1) for lot in due_calm(wishes)}
            found = {tuple(sorted(groups)) for groups in alone}
            self.assertEqual(len(found), 1)
            told |= {len(groups) for groups in found}
        self.assertTrue({0, 1, 2} <= told)

    def test_calls_again(self):
        wishes = CIRCLES[1]
        before = exact(wishes.ranks)
        for side in (0, 1):
            again = Wishes(Collection(6, list(wishes.collection.groups)), wishes.ranks)
            self.same(proposed(wishes, side), proposed(again, side))
        self.assertEqual(exact(wishes.ranks), before)

    def test_undefined_in_order(self):
        for side in (0, 1) + WRONG_SIDES:
            for collection in GREATERS:
                self.undefined("pairs", proposed, strict_wishes(collection, 1), side)
                level = Wishes(collection, tuple((0,) * len(collection.places_of(k)) for k in range(collection.n)))
                self.undefined("pairs", proposed, level, side)
            self.undefined("sides", proposed, odd_circle(3), side)
            self.undefined("sides", proposed, odd_circle(5), side)
            self.undefined("sides", proposed, Wishes(TRIANGLE, ((0, 0, 0),) * 3), side)
            self.undefined("strict", proposed, Wishes(HOUSE, ((0, 1), (1, 1))), side)
            self.undefined("strict", proposed, Wishes(SQUARE, ((0, 1, 2), (0, 1, 2), (0, 1, 2), (2, 1, 2))), side)
        self.undefined("pairs", proposed, side=None, wishes=strict_wishes(GREATER, 1))

    def test_wrong_sides(self):
        for wishes in CIRCLES + [Wishes(ONE, ((0,),))]:
            for side in list(WRONG_SIDES) + [value for value in odd_values() if exact(value) not in ((int, 0), (int, 1))]:
                self.refuses(InvalidKind, side, proposed, wishes, side)
        self.refuses(InvalidKind, None, proposed, side=None, wishes=CIRCLES[0])


if __name__ == "__main__":
    unittest.main()
