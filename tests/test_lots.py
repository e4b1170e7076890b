"""Point [9]."""

import unittest
from itertools import combinations

from anyvalues import HOUSE, Tests, altered, due_lots, exact, full_collection, odd_values, random_collection, shaped
from calmgroups.errors import InvalidLot, InvalidNumber
from calmgroups.groups import Collection
from calmgroups.lots import is_lot, lots, own_place

TRIO = Collection(3, [(0, 1, 2), (2,), (1, 2), (1,), (0, 1), (0,)])


def is_due(collection, value):
    """Whether a value of any kind is a lot."""
    if not shaped(value, [int]) or any(place < 0 or place >= len(collection.groups) for place in value):
        return False
    members = [member for place in value for member in collection.groups[place]]
    return list(value) == sorted(value) and sorted(members) == list(range(collection.n))


class Lots(Tests):
    def test_small_collections(self):
        self.same(lots(Collection(1, [(0,)])), ((0,),))
        self.same(lots(HOUSE), ((0, 1), (2,)))
        self.same(lots(collection=TRIO), ((0,), (1, 3, 5), (1, 4), (2, 5)))
        self.same(lots(Collection(2, [(0, 1), (1,), (0,)])), ((0,), (1, 2)))

    def test_all_lots_in_dictionary_order(self):
        for seed in range(150):
            collection = random_collection(seed)
            self.same(lots(collection), tuple(due_lots(collection)))

    def test_24_groups(self):
        for seed in range(20):
            collection = full_collection(seed)
            self.assertEqual(len(collection), 24)
            self.same(lots(collection), tuple(due_lots(collection)))

    def test_all_sets_of_places(self):
        for collection in (TRIO, full_collection(1)):
            found = lots(collection)
            for many in range(4):
                for value in combinations(range(len(collection)), many):
                    self.assertEqual(value in found, is_due(collection, value))
                    self.assertIs(is_lot(collection, value), is_due(collection, value))

    def test_each_is_a_lot(self):
        for seed in range(60):
            collection = random_collection(seed)
            for lot in lots(collection):
                self.assertIs(is_lot(collection, lot), True)
                self.assertIs(is_lot(value=lot, collection=collection), True)


class IsLot(Tests):
    def test_changed_lots(self):
        told = set()
        for seed in range(40):
            collection = random_collection(seed)
            for lot in lots(collection)[:12]:
                for value in altered(lot):
                    told.add(is_due(collection, value))
                    self.assertIs(is_lot(collection, value), is_due(collection, value), value)
        self.assertEqual(told, {True, False})

    def test_any_value(self):
        for collection in (Collection(1, [(0,)]), HOUSE, TRIO, full_collection(2)):
            for value in odd_values() + lists_and_orders():
                self.assertIs(is_lot(collection, value), is_due(collection, value), value)

    def test_bools_in_a_lot(self):
        self.assertIs(is_lot(HOUSE, (0, 1)), True)
        for value in ((False, 1), (0, True), (False, True), (0, 1, None), [0, 1], (1, 0), (0, 0, 1), (0, 1, 2), (0, 1, -1)):
            self.assertIs(is_lot(HOUSE, value), False)
        self.assertIs(is_lot(Collection(1, [(0,)]), (False,)), False)
        self.assertIs(is_lot(Collection(1, [(0,)]), (-1,)), False)
        self.assertIs(is_lot(Collection(1, [(0,)]), ()), False)


def lists_and_orders():
    return [(1, 3, 5), (5, 3, 1), [1, 3, 5], (1, 5), (1, 3, 5, 5), (1, 4), (1, 4, 24), (2,), (2, -1), (-4,), (6,)]


class OwnPlace(Tests):
    def test_each_member(self):
        self.assertEqual([own_place(TRIO, (1, 4), member) for member in range(3)], [4, 4, 1])
        self.same(own_place(member=2, lot=(2, 5), collection=TRIO), 2)
        for seed in range(100):
            collection = random_collection(seed)
            for lot in lots(collection):
                for member in range(collection.n):
                    place = [place for place in lot if member in collection.groups[place]]
                    self.same([own_place(collection, lot, member)], place)

    def test_wrong_lots(self):
        for lot in odd_values() + lists_and_orders():
            if not is_due(TRIO, lot):
                self.refuses(InvalidLot, lot, own_place, TRIO, lot, 0)
                self.refuses(InvalidLot, lot, own_place, TRIO, lot, -1)
                self.refuses(InvalidLot, lot, own_place, TRIO, lot, True)
                self.refuses(InvalidLot, lot, own_place, member=lot, lot=lot, collection=TRIO)

    def test_wrong_members(self):
        for member in odd_values() + [3, 4, 24, (1,)]:
            self.refuses(InvalidNumber, member, own_place, TRIO, (1, 4), member)
        self.refuses(InvalidNumber, 2, own_place, HOUSE, (2,), 2)

    def test_the_collection_stays(self):
        before = exact(TRIO.groups)
        lots(TRIO)
        own_place(TRIO, (0,), 1)
        self.assertEqual(exact(TRIO.groups), before)


if __name__ == "__main__":
    unittest.main()
