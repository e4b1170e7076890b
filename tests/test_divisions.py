"""Point [17], and promise (9)."""

import random
import unittest
from itertools import permutations

from anyvalues import (
    HOUSE, Tests, all_strict_wishes, altered, by_lists, due_calm, exact, full_collection, likings, odd_circle,
    odd_values, of_pairs, random_pairs, random_wishes, shaped, strict_wishes)
from calmgroups.divisions import division, division_holds, odd_rings, rings_of
from calmgroups.groups import Collection
from calmgroups.wishes import Wishes

ONE = Wishes(Collection(1, [(0,)]), ((4,),))
TRIANGLE = of_pairs(3, [(0, 1), (1, 2), (0, 2)])
# An odd circle of 0, 1 and 2 beside the pair of 3 and 4, and one beside 3, who nobody likes best.
BESIDE = by_lists([1, 2], [2, 0], [0, 1], [4], [3], [])
UNLIKED = by_lists([1, 2, 3], [2, 0, 3], [0, 1, 3], [0, 1, 2])
TWO_CIRCLES = by_lists([1, 2], [2, 0], [0, 1], [4, 5], [5, 3], [3, 4])
SOME = [ONE, odd_circle(3), odd_circle(4), odd_circle(5), odd_circle(6), BESIDE, UNLIKED, TWO_CIRCLES]
LEVEL = [
    Wishes(HOUSE, ((0, 0), (0, 1))), Wishes(TRIANGLE, ((0, 1, 2), (0, 1, 2), (1, 2, 1))),
    Wishes(TRIANGLE, ((5, 5, 5),) * 3),
]
GREATER = Collection(3, [(0,), (1,), (2,), (0, 1), (1, 2), (0, 2), (0, 1, 2)])
NOT_OF_PAIRS = [strict_wishes(GREATER, 1), strict_wishes(full_collection(1), 1)]


def strict_pairs():
    """Strict wishes of pairs of 1 to 6 members."""
    return SOME + [strict_wishes(random_pairs(seed), seed) for seed in range(200)]


def is_due(wishes, value):
    """Whether a value of any kind is a division, as point [17] words it."""
    collection = wishes.collection
    n = collection.n
    if any(len(group) > 2 for group in collection.groups) or any(len(set(row)) < len(row) for row in wishes.ranks):
        return False
    if not shaped(value, [int]) or sorted(value) != list(range(n)):
        return False
    told = likings(wishes)
    places = {frozenset(group): place for place, group in enumerate(collection.groups)}
    lasts = {following: member for member, following in enumerate(value)}
    for member, following in enumerate(value):
        if frozenset({member, following}) not in places:
            return False
    own = [told[member][places[frozenset({member, lasts[member]})]] for member in range(n)]
    for member, following in enumerate(value):
        if following != lasts[member] and not told[member][places[frozenset({member, following})]] < own[member]:
            return False
    return not any(all(told[member][place] < own[member] for member in group)
                   for place, group in enumerate(collection.groups))


def due_rings(value):
    """The rings of a row of next members, told by the powers of the row."""
    found = set()
    for member in range(len(value)):
        ring = [member]
        for _ in value:
            ring.append(value[ring[-1]])
        ring = ring[:ring.index(member, 1)]
        at = ring.index(min(ring))
        found.add(tuple(ring[at:] + ring[:at]))
    return tuple(sorted(found))


def due_odd(value):
    return tuple(ring for ring in due_rings(value) if len(ring) in (3, 5))


class RingsOf(Tests):
    def test_small(self):
        self.same(rings_of(()), ())
        self.same(rings_of((0,)), ((0,),))
        self.same(rings_of(value=(1, 0)), ((0, 1),))
        self.same(rings_of((0, 1, 2)), ((0,), (1,), (2,)))
        self.same(rings_of((2, 0, 1)), ((0, 2, 1),))
        self.same(rings_of((3, 5, 4, 2, 0, 1)), ((0, 3, 2, 4), (1, 5)))

    def test_all_rows(self):
        for length in range(7):
            for value in permutations(range(length)):
                self.same(rings_of(value), due_rings(value))


class Division(Tests):
    def test_small(self):
        self.same(division(ONE), (0,))
        self.same(division(wishes=Wishes(HOUSE, ((1, 0), (1, 0)))), (1, 0))
        self.same(division(Wishes(HOUSE, ((1, 0), (0, 1)))), (0, 1))
        self.same(division(odd_circle(3)), (1, 2, 0))
        self.same(division(odd_circle(5)), (1, 2, 3, 4, 0))
        self.same(division(BESIDE), (1, 2, 0, 4, 3, 5))
        self.same(division(UNLIKED), (1, 2, 0, 3))

    def test_there_always_is_one(self):
        for wishes in strict_pairs():
            before = exact(wishes.ranks)
            value = division(wishes)
            self.assertTrue(is_due(wishes, value), value)
            self.assertIs(division_holds(wishes, value), True)
            again = Wishes(Collection(wishes.collection.n, list(wishes.collection.groups)), wishes.ranks)
            self.same(division(again), value)
            self.assertEqual(exact(wishes.ranks), before)

    def test_all_strict_wishes_of_three(self):
        counts = set()
        for wishes in all_strict_wishes(TRIANGLE):
            self.assertTrue(is_due(wishes, division(wishes)))
            self.assertEqual(odd_rings(wishes) == (), due_calm(wishes) != [])
            counts.add(odd_rings(wishes))
        self.assertEqual(counts, {(), ((0, 1, 2),), ((0, 2, 1),)})

    def test_undefined_in_order(self):
        for function in (division, odd_rings):
            for wishes in NOT_OF_PAIRS + [Wishes(GREATER, ((0, 0, 0, 0),) * 3)]:
                self.undefined("pairs", function, wishes)
                self.undefined("pairs", function, wishes=wishes)
            for wishes in LEVEL:
                self.undefined("strict", function, wishes)
                self.undefined("strict", function, wishes=wishes)


class Holds(Tests):
    def test_all_rows(self):
        told = set()
        for wishes in strict_pairs():
            rows = list(permutations(range(wishes.collection.n)))
            for value in rows if len(rows) < 720 else rows[::7]:
                told.add(is_due(wishes, value))
                self.assertIs(division_holds(wishes, value), is_due(wishes, value), value)
        self.assertEqual(told, {True, False})

    def test_calm_lots_are_divisions(self):
        for wishes in strict_pairs():
            for lot in due_calm(wishes):
                value = list(range(wishes.collection.n))
                for place in lot:
                    group = wishes.collection.groups[place]
                    value[group[0]], value[group[-1]] = group[-1], group[0]
                self.assertIs(division_holds(value=tuple(value), wishes=wishes), True)

    def test_changed_at_one_place_and_exchanged(self):
        told = set()
        for wishes in strict_pairs()[::2]:
            right = division(wishes)
            values = altered(right)
            for one in range(len(right)):
                for other in range(one):
                    value = list(right)
                    value[one], value[other] = value[other], value[one]
                    values += [tuple(value), value]
            for value in values:
                told.add(is_due(wishes, value))
                self.assertIs(division_holds(wishes, value), is_due(wishes, value), value)
        self.assertEqual(told, {True, False})

    def test_lists_and_bools(self):
        for value in ([1, 2, 0], (True, 2, 0), (1, 2, False), (1, 2, 0, 3), (1, 2), (1, 2, 3), (1, 2, -3), (1, 1, 0)):
            self.assertIs(division_holds(odd_circle(3), value), False, value)
        self.assertIs(division_holds(odd_circle(3), (1, 2, 0)), True)
        self.assertIs(division_holds(ONE, (False,)), False)
        self.assertIs(division_holds(ONE, (0,)), True)

    def test_values_of_any_kind(self):
        for wishes in SOME + LEVEL + NOT_OF_PAIRS:
            n = wishes.collection.n
            for value in odd_values() + [(one,) * n for one in odd_values()]:
                self.assertIs(division_holds(wishes, value), is_due(wishes, value), value)

    def test_not_strict_or_not_of_pairs(self):
        for wishes in LEVEL + NOT_OF_PAIRS + [Wishes(GREATER, ((0, 1, 2, 3), (0, 1, 2, 3), (0, 1, 2, 3)))]:
            for value in permutations(range(wishes.collection.n)):
                self.assertIs(division_holds(wishes, value), False)


class OddRings(Tests):
    def test_small(self):
        self.same(odd_rings(ONE), ())
        self.same(odd_rings(wishes=odd_circle(3)), ((0, 1, 2),))
        self.same(odd_rings(odd_circle(5)), ((0, 1, 2, 3, 4),))
        self.same(odd_rings(odd_circle(4)), ())
        self.same(odd_rings(odd_circle(6)), ())
        self.same(odd_rings(BESIDE), ((0, 1, 2),))
        self.same(odd_rings(UNLIKED), ((0, 1, 2),))
        self.same(odd_rings(TWO_CIRCLES), ((0, 1, 2), (3, 4, 5)))

    def test_the_same_in_every_division(self):
        several = 0
        for wishes in strict_pairs():
            if wishes.collection.n < 6:
                found = [value for value in permutations(range(wishes.collection.n)) if is_due(wishes, value)]
                self.assertNotEqual(found, [])
                several += len(found) > 1
                for value in found:
                    self.same(odd_rings(wishes), due_odd(value))
        self.assertGreater(several, 0)

    def test_the_same_in_divisions_of_six(self):
        for wishes in [wishes for wishes in strict_pairs() if wishes.collection.n == 6][:12]:
            for value in permutations(range(6)):
                if is_due(wishes, value):
                    self.same(odd_rings(wishes), due_odd(value))

    def test_a_calm_lot_exactly_if_there_are_none(self):
        told = set()
        for seed in range(600):
            wishes = strict_wishes(random_pairs(seed + 1000), seed)
            rings = odd_rings(wishes)
            self.assertEqual(rings == (), due_calm(wishes) != [])
            told |= {len(ring) for ring in rings}
        for wishes in strict_pairs():
            self.assertEqual(odd_rings(wishes) == (), due_calm(wishes) != [])
            told |= {len(ring) for ring in odd_rings(wishes)}
        self.assertEqual(told, {3, 5})

    def test_wishes_of_every_kind(self):
        for seed in range(100):
            wishes = random_wishes(seed)
            pairs = all(len(group) < 3 for group in wishes.collection.groups)
            if not pairs or any(len(set(row)) < len(row) for row in wishes.ranks):
                self.undefined("strict" if pairs else "pairs", odd_rings, wishes)
                self.assertIs(division_holds(wishes, tuple(random.Random(seed).sample(range(6), 6))), False)


if __name__ == "__main__":
    unittest.main()
