"""Point [18], and promise (10)."""

import random
import unittest
from fractions import Fraction
from math import gcd

from anyvalues import (
    HOUSE, Tests, all_groups, altered, due_calm, due_lots, exact, full_collection, likings, odd_circle, odd_values,
    of_pairs, random_collection, random_wishes, shaped, strict_wishes)
from calmgroups.errors import InvalidLot
from calmgroups.groups import Collection
from calmgroups.ratios import solved
from calmgroups.shares import calm_shares_hold, is_shares, lot_of_shares, shares
from calmgroups.wishes import Wishes

ONE = Collection(1, [(0,)])
TRIANGLE = of_pairs(3, [(0, 1), (1, 2), (0, 2)])
HALVES = ((0, 1), (0, 1), (0, 1), (1, 2), (1, 2), (1, 2))
THREES = Collection(4, [(k,) for k in range(4)] + [(0, 1, 2), (0, 1, 3), (0, 2, 3), (1, 2, 3)])


def circle_of_groups(n, size):
    """Groups of so many members in a circle of n; each likes best the one that it comes first in."""
    rows = [[(start + k) % n for k in range(size)] for start in range(n)]
    collection = Collection(n, [(member,) for member in range(n)] + [tuple(sorted(row)) for row in rows])
    ranks = [[size] + [rows[at].index(member) for at in range(n) if member in rows[at]] for member in range(n)]
    return Wishes(collection, tuple(tuple(row) for row in ranks))


CIRCLES = [odd_circle(3), odd_circle(5), circle_of_groups(4, 3), circle_of_groups(5, 2), circle_of_groups(5, 3),
           circle_of_groups(5, 4), circle_of_groups(6, 4), circle_of_groups(6, 5)]


def eager(seed, ties):
    """Wishes of chance of members who like to be alone least of all."""
    chance = random.Random(seed)
    n = chance.randint(3, 6)
    more = [group for group in all_groups(n) if 1 < len(group) < 4]
    groups = [(member,) for member in range(n)] + chance.sample(more, min(len(more), 18))
    chance.shuffle(groups)
    collection = Collection(n, groups)
    rows = []
    for member in range(n):
        places = collection.places_of(member)
        row = [chance.randint(0, 4) for _ in places] if ties else chance.sample(range(98), len(places))
        row[places.index(collection.place((member,)))] = 99
        rows.append(tuple(row))
    return Wishes(collection, tuple(rows))


def some_wishes():
    """Wishes of all sizes with a calm lot and without, strict and with ties."""
    found = CIRCLES + [eager(seed, seed % 2 == 0) for seed in range(120)]
    for seed in range(60):
        found += [random_wishes(seed), strict_wishes(random_collection(seed), seed)]
    return found + [strict_wishes(full_collection(seed), seed) for seed in range(10)]


def is_row_due(collection, value):
    """Whether a value of any kind is a row of shares."""
    if not shaped(value, [(int, int)]) or len(value) != len(collection.groups):
        return False
    if not all(b >= 1 and a >= 0 and gcd(a, b) == 1 for a, b in value):
        return False
    for member in range(collection.n):
        if sum(Fraction(*share) for share, group in zip(value, collection.groups) if member in group) != 1:
            return False
    return True


def is_calm_due(wishes, value):
    """Whether a value of any kind is a calm row of shares."""
    if not is_row_due(wishes.collection, value):
        return False
    told = likings(wishes)

    def is_content(member, place):
        return not any(told[member][place] < rank for other, rank in told[member].items() if value[other] > (0, 1))

    return all(any(is_content(member, place) for member in group)
               for place, group in enumerate(wishes.collection.groups))


def row_of_lot(collection, lot):
    return tuple((1, 1) if place in lot else (0, 1) for place in range(len(collection.groups)))


def mixed(collection, seed):
    """A row of shares of chance: some lots, each as often as chance tells."""
    chance = random.Random(seed)
    chosen = chance.choices(due_lots(collection), k=chance.randint(2, 4))
    parts = [chance.randint(1, 5) for _ in chosen]
    row = []
    for place in range(len(collection.groups)):
        share = sum((Fraction(part, sum(parts)) for lot, part in zip(chosen, parts) if place in lot), Fraction(0))
        row.append((share.numerator, share.denominator))
    return tuple(row)


class IsShares(Tests):
    def test_small(self):
        self.assertIs(is_shares(ONE, ((1, 1),)), True)
        self.assertIs(is_shares(value=HALVES, collection=TRIANGLE), True)
        self.assertIs(is_shares(HOUSE, ((1, 3), (1, 3), (2, 3))), True)
        self.assertIs(is_shares(HOUSE, ((1, 1), (1, 1), (0, 1))), True)
        self.assertIs(is_shares(THREES, ((0, 1),) * 4 + ((1, 3),) * 4), True)
        self.assertIs(is_shares(THREES, ((1, 4), (1, 2), (1, 2), (1, 2), (1, 4), (1, 4), (1, 4), (0, 1))), True)

    def test_ratios(self):
        for value in (((2, 6), (1, 3), (2, 3)), ((1, 3), (1, 3), (4, 6)), ((2, 2), (1, 1), (0, 1)), ((1, 1), (1, 1), (0, 2)),
                      ((1, 1), (1, 1), (0, 0)), ((1, 1), (1, 1), (0, -1)), ((-1, -1), (1, 1), (0, 1)),
                      ((2, 1), (2, 1), (-1, 1)), ((2, 1), (2, 1), (1, -1)), ((-1, 2), (-1, 2), (3, 2)),
                      ((1, 0), (1, 0), (0, 1)), ((0, 1), (0, 1), (0, 1)), ((1, 1), (1, 1), (1, 1)), ((1, 2), (1, 2), (1, 3)),
                      ((1, 2), (1, 3), (1, 2)), ((1, 1), (0, 1), (0, 1)), ((10 ** 11, 10 ** 11), (1, 1), (0, 1))):
            self.assertIs(is_shares(HOUSE, value), False, value)

    def test_bools_and_lists(self):
        self.assertIs(is_shares(HOUSE, ((1, 1), (1, 1), (0, 1))), True)
        for value in (((True, 1), (1, 1), (0, 1)), ((1, True), (1, 1), (0, 1)), ((1, 1), (1, 1), (False, 1)),
                      [(1, 1), (1, 1), (0, 1)], ([1, 1], (1, 1), (0, 1)), ((1, 1), (1, 1), [0, 1]), (1, 1, 0),
                      ((1, 1), (1, 1)), ((1, 1), (1, 1), (0, 1), (0, 1)), ((1,), (1,), (0,)), ((1, 1, 1), (1, 1), (0, 1))):
            self.assertIs(is_shares(HOUSE, value), False, value)

    def test_great_figures(self):
        b = 999999999989
        self.assertIs(is_shares(HOUSE, ((1, b), (1, b), (b - 1, b))), True)
        self.assertIs(is_shares(HOUSE, ((1, b), (1, b), (b - 2, b))), False)
        many = full_collection(2)
        row = tuple((1, b - 2 * place) for place in range(24))
        self.assertIs(is_shares(many, row), is_row_due(many, row))

    def test_rows_of_chance(self):
        for seed in range(150):
            collection = random_collection(seed)
            self.assertIs(is_row_due(collection, mixed(collection, seed)), True)
            self.assertIs(is_shares(collection, mixed(collection, seed)), True)

    def test_changed_rows(self):
        told = set()
        for seed in range(40):
            collection = random_collection(seed)
            for value in altered(mixed(collection, seed)):
                told.add(is_row_due(collection, value))
                self.assertIs(is_shares(collection, value), is_row_due(collection, value), value)
        self.assertEqual(told, {True, False})

    def test_values_of_any_kind(self):
        for collection in (ONE, HOUSE, TRIANGLE):
            for value in odd_values() + [(one,) * len(collection) for one in odd_values()]:
                self.assertIs(is_shares(collection, value), is_row_due(collection, value), value)
                self.assertIs(calm_shares_hold(strict_wishes(collection, 1), value), False)


class Shares(Tests):
    def test_circles(self):
        self.same(shares(odd_circle(3)), HALVES)
        self.same(shares(wishes=odd_circle(3)), HALVES)
        self.same(shares(Wishes(ONE, ((9,),))), ((1, 1),))
        self.same(shares(Wishes(HOUSE, ((1, 0), (1, 0)))), ((0, 1), (0, 1), (1, 1)))
        for wishes in CIRCLES:
            if due_calm(wishes) == []:
                self.assertTrue(any(b > 1 for _, b in shares(wishes)))
        self.assertGreater(sum(due_calm(wishes) == [] for wishes in CIRCLES), 3)

    def test_there_always_is_a_calm_row(self):
        told = set()
        for wishes in some_wishes():
            before = exact(wishes.ranks)
            row = shares(wishes)
            self.assertTrue(is_calm_due(wishes, row), row)
            self.assertIs(calm_shares_hold(wishes, row), True)
            self.same(shares(Wishes(Collection(wishes.collection.n, wishes.collection.groups), wishes.ranks)), row)
            self.assertEqual(exact(wishes.ranks), before)
            strict = all(len(set(ranks)) == len(ranks) for ranks in wishes.ranks)
            told.add((strict, due_calm(wishes) != [], all(b == 1 for _, b in row)))
            if all(b == 1 for _, b in row):
                self.assertIn(tuple(place for place, share in enumerate(row) if share == (1, 1)), due_calm(wishes))
        self.assertTrue({(True, True, True), (True, False, False), (False, True, True)} <= told, told)

    def test_many_wishes(self):
        for seed in range(1000, 1300):
            wishes = eager(seed, seed % 2 == 0)
            self.assertTrue(is_calm_due(wishes, shares(wishes)))

    def test_ties_without_a_calm_lot(self):
        found = 0
        for seed in range(250):
            wishes = eager(seed, True)
            if due_calm(wishes) == []:
                found += 1
                self.assertTrue(any(b > 1 for _, b in shares(wishes)))
        self.assertGreater(found, 0)


class CalmShares(Tests):
    def test_small(self):
        wishes = odd_circle(3)
        self.assertIs(calm_shares_hold(value=HALVES, wishes=wishes), True)
        for value in (((1, 1), (1, 1), (1, 1), (0, 1), (0, 1), (0, 1)), ((0, 1), (0, 1), (1, 1), (1, 1), (0, 1), (0, 1)),
                      ((1, 3),) * 6, ((1, 2), (0, 1), (1, 2), (1, 2), (0, 1), (1, 2)), list(HALVES)):
            self.assertIs(calm_shares_hold(wishes, value), False, value)
        level = Wishes(HOUSE, ((0, 0), (1, 1)))
        for value in (((1, 1), (1, 1), (0, 1)), ((0, 1), (0, 1), (1, 1)), ((1, 2), (1, 2), (1, 2))):
            self.assertIs(calm_shares_hold(level, value), True)
            self.assertIs(calm_shares_hold(Wishes(HOUSE, ((1, 0), (1, 0))), value), value[2] == (1, 1))

    def test_rows_of_lots(self):
        for wishes in some_wishes():
            calm = due_calm(wishes)
            for lot in due_lots(wishes.collection):
                self.assertIs(calm_shares_hold(wishes, row_of_lot(wishes.collection, lot)), lot in calm)

    def test_rows_of_chance(self):
        told = set()
        for seed, wishes in enumerate(some_wishes()):
            for value in (mixed(wishes.collection, seed), mixed(wishes.collection, seed + 1)):
                told.add(is_calm_due(wishes, value))
                self.assertIs(calm_shares_hold(wishes, value), is_calm_due(wishes, value))
        self.assertEqual(told, {True, False})

    def test_changed_rows(self):
        told = set()
        for wishes in some_wishes()[::12]:
            for value in altered(shares(wishes)):
                told.add((is_row_due(wishes.collection, value), is_calm_due(wishes, value)))
                self.assertIs(calm_shares_hold(wishes, value), is_calm_due(wishes, value), value)
        self.assertIn((False, False), told)
        self.assertIn((True, True), told)

    def test_a_row_for_other_wishes(self):
        told = set()
        for seed in range(100):
            one = eager(seed, False)
            other = strict_wishes(one.collection, seed + 1)
            told.add(is_calm_due(other, shares(one)))
            self.assertIs(calm_shares_hold(other, shares(one)), is_calm_due(other, shares(one)))
        self.assertIn(False, told)


class LotOfShares(Tests):
    def test_each_lot(self):
        for seed in range(60):
            collection = random_collection(seed)
            for lot in due_lots(collection):
                self.same(lot_of_shares(collection, row_of_lot(collection, lot)), lot)
        self.same(lot_of_shares(value=((0, 1), (0, 1), (1, 1)), collection=HOUSE), (2,))
        self.same(lot_of_shares(ONE, ((1, 1),)), (0,))

    def test_rows_that_are_not_whole(self):
        self.refuses(InvalidLot, HALVES, lot_of_shares, TRIANGLE, HALVES)
        for seed in range(60):
            collection = random_collection(seed)
            row = mixed(collection, seed)
            if any(b > 1 for _, b in row):
                self.refuses(InvalidLot, row, lot_of_shares, collection, row)

    def test_changed_rows(self):
        for seed in range(30):
            collection = random_collection(seed)
            lot = random.Random(seed).choice(due_lots(collection))
            for value in altered(row_of_lot(collection, lot)):
                if is_row_due(collection, value) and set(value) <= {(0, 1), (1, 1)}:
                    self.same(lot_of_shares(collection, value), tuple(k for k in range(len(value)) if value[k] == (1, 1)))
                else:
                    self.refuses(InvalidLot, value, lot_of_shares, collection, value)

    def test_all_other_values(self):
        for collection in (ONE, HOUSE, TRIANGLE):
            for value in odd_values() + [(one,) * len(collection) for one in odd_values()] + [(0, 1), (2,), ((0, 2),)]:
                self.refuses(InvalidLot, value, lot_of_shares, collection, value)
        self.refuses(InvalidLot, None, lot_of_shares, value=None, collection=HOUSE)


class Solved(Tests):
    def test_rows(self):
        self.same(solved([[2, 0, 1], [0, -3, 2]]), ((1, 2), (-2, 3)))
        self.same(solved([[0, 1, 4], [1, 1, 6]]), ((2, 1), (4, 1)))
        self.assertIsNone(solved([[1, 1, 1], [1, 1, 1]]))
        self.assertIsNone(solved([[1, 1, 1], [2, 2, 3]]))

    def test_rows_of_chance(self):
        for seed in range(300):
            chance = random.Random(seed)
            n = chance.randint(1, 6)
            rows = [[chance.randint(0, 1) for _ in range(n)] + [1] for _ in range(n)]
            found = solved(rows)
            if found is not None:
                for row in rows:
                    self.assertEqual(sum(one * Fraction(*share) for one, share in zip(row, found)), row[n])


if __name__ == "__main__":
    unittest.main()
