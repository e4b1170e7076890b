"""Point [8]."""

import random
import unittest

from anyvalues import HOUSE, Tests, altered, odd_values, random_collection, shaped
from calmgroups.errors import InvalidOrders, InvalidValues
from calmgroups.groups import Collection
from calmgroups.makers import by_best, by_numbers, by_sizes, by_worst
from calmgroups.wishes import Wishes

ONE = Collection(1, [(0,)])
TRIO = Collection(3, [(0, 1, 2), (2,), (1, 2), (1,), (0, 1), (0,)])
SQUARE = Collection(4, [(0,), (1,), (2,), (3,), (0, 1), (0, 2), (0, 3), (0, 1, 2), (1, 2, 3), (0, 1, 2, 3)])


def square_of(n, low, high):
    """Whether a value is a tuple of n tuples of n integers from low to high."""
    def told(value):
        return (shaped(value, [[int]]) and len(value) == n and all(len(row) == n for row in value)
                and all(low <= number <= high for row in value for number in row))
    return told


def orders_of(n):
    """Whether a value is a tuple of n orders of n members."""
    def told(value):
        return shaped(value, [[int]]) and len(value) == n and all(sorted(row) == list(range(n)) for row in value)
    return told


class Makers(Tests):
    def made(self, function, collection, value, ranks):
        wishes = function(collection, value)
        self.assertIs(type(wishes), Wishes)
        self.assertEqual(wishes.collection, collection)
        self.same(wishes.ranks, ranks)

    def looks_at_values(self, function, error, collection, values, is_right):
        """Just those of the values that are right are taken, the others are refused."""
        taken = 0
        for value in values:
            if is_right(value):
                self.assertIs(type(function(collection, value)), Wishes)
                taken += 1
            else:
                self.refuses(error, value, function, collection, value)
        self.assertLess(taken, len(values))


class ByNumbers(Makers):
    def test_ordinary_values(self):
        numbers = ((0, 5, -3), (1, 0, 2), (-4, -1, 0))
        self.made(by_numbers, TRIO, numbers, ((1, 0, 2), (0, 1, 3, 2), (2, 0, 1)))
        self.assertEqual(by_numbers(numbers=numbers, collection=TRIO), by_numbers(TRIO, numbers))
        self.made(by_numbers, SQUARE, ((0, 2, 1, -3),) + ((0, 0, 0, 0),) * 3, ((3, 1, 2, 4, 0, 3), (0,) * 5, (0,) * 5, (0,) * 4))

    def test_ties_count_once(self):
        numbers = ((0, 3, 3, 0), (7, 0, -7, 0), (0, 0, 0, 0), (1, 1, 1, 1))
        self.made(by_numbers, SQUARE, numbers, ((2, 1, 1, 2, 0, 0), (1, 0, 1, 2, 1), (0,) * 5, (3, 2, 1, 0)))

    def test_one_member(self):
        for number in (-99, -1, 0, 1, 99):
            self.made(by_numbers, ONE, ((number,),), ((0,),))

    def test_bounds(self):
        self.made(by_numbers, HOUSE, ((0, 99), (-99, 0)), ((1, 0), (0, 1)))
        self.made(by_numbers, HOUSE, ((99, -99), (-99, 99)), ((0, 1), (0, 1)))
        for number in (100, -100, 10 ** 11, -10 ** 11):
            for numbers in (((0, number), (0, 0)), ((number, 0), (0, 0)), ((0, 0), (0, number))):
                self.refuses(InvalidValues, numbers, by_numbers, HOUSE, numbers)

    def test_the_integer_for_itself_has_no_effect(self):
        for own in (-99, -1, 0, 1, 50, 99):
            self.made(by_numbers, HOUSE, ((own, 1), (-1, own)), ((1, 0), (0, 1)))
            self.made(by_numbers, HOUSE, ((own, 0), (0, own)), ((0, 0), (0, 0)))

    def test_values_of_chance(self):
        for seed in range(200):
            chance = random.Random(seed)
            collection = random_collection(seed)
            top = chance.choice([1, 3, 99])
            numbers = tuple(tuple(chance.randint(-top, top) for _ in range(collection.n)) for _ in range(collection.n))
            ranks = []
            for member in range(collection.n):
                sums = [sum(numbers[member][other] for other in set(group) - {member})
                        for group in collection.groups if member in group]
                ranks.append(tuple(len({other for other in sums if other > own}) for own in sums))
            self.made(by_numbers, collection, numbers, tuple(ranks))

    def test_wrong_values(self):
        for collection, numbers in ((ONE, ((5,),)), (HOUSE, ((0, 99), (-99, 3))), (TRIO, ((1, 2, 3), (4, 5, 6), (7, 8, -9)))):
            values = odd_values() + altered(numbers) + altered(((-99,) * collection.n,) * collection.n)
            self.looks_at_values(by_numbers, InvalidValues, collection, values, square_of(collection.n, -99, 99))


class BySizes(Makers):
    def test_ordinary_values(self):
        likes = ((3, 1, 2), (0, 0, 0), (9, 99, 0))
        self.made(by_sizes, TRIO, likes, ((2, 1, 3), (0, 0, 0, 0), (0, 9, 99)))
        self.assertEqual(by_sizes(likes=likes, collection=TRIO), by_sizes(TRIO, likes))
        self.made(by_sizes, ONE, ((99,),), ((99,),))
        self.made(by_sizes, SQUARE, ((1, 2, 3, 4),) * 4, ((1, 2, 2, 2, 3, 4), (1, 2, 3, 3, 4), (1, 2, 3, 3, 4), (1, 2, 3, 4)))

    def test_bounds(self):
        self.made(by_sizes, HOUSE, ((0, 99), (99, 0)), ((0, 99), (99, 0)))
        for number in (100, -1, -99, 10 ** 11):
            for likes in (((0, number), (0, 0)), ((number, 0), (0, 0)), ((0, 0), (0, number))):
                self.refuses(InvalidValues, likes, by_sizes, HOUSE, likes)

    def test_values_of_chance(self):
        for seed in range(100):
            chance = random.Random(seed)
            collection = random_collection(seed)
            likes = tuple(tuple(chance.randint(0, 99) for _ in range(collection.n)) for _ in range(collection.n))
            ranks = tuple(tuple(row[len(group) - 1] for group in collection.groups if member in group)
                          for member, row in enumerate(likes))
            self.made(by_sizes, collection, likes, ranks)

    def test_wrong_values(self):
        for collection, likes in ((ONE, ((5,),)), (HOUSE, ((0, 99), (98, 3))), (TRIO, ((1, 2, 3), (4, 5, 6), (7, 8, 9)))):
            values = odd_values() + altered(likes)
            self.looks_at_values(by_sizes, InvalidValues, collection, values, square_of(collection.n, 0, 99))


class ByOrders(Makers):
    def test_ordinary_values(self):
        orders = ((1, 0, 2), (2, 0, 1), (2, 1, 0))
        self.made(by_best, TRIO, orders, ((0, 0, 1), (0, 0, 2, 1), (1, 0, 1)))
        self.made(by_worst, TRIO, orders, ((2, 0, 1), (1, 0, 2, 1), (2, 0, 1)))
        for function in (by_best, by_worst):
            self.assertEqual(function(orders=orders, collection=TRIO), function(TRIO, orders))
            self.made(function, ONE, ((0,),), ((0,),))
            self.made(function, HOUSE, ((0, 1), (0, 1)), ((0, 1), (1, 0)))

    def test_its_own_place_counts_only_where_it_is_alone(self):
        for orders in (((0, 1, 2, 3),) * 4, ((3, 2, 1, 0),) * 4):
            for function in (by_best, by_worst):
                ranks = function(SQUARE, orders).ranks
                self.assertEqual([ranks[member][0] for member in range(4)], [orders[0].index(member) for member in range(4)])
        self.made(by_best, SQUARE, ((0, 1, 2, 3),) * 4, ((0, 1, 2, 3, 1, 1), (1, 0, 0, 2, 0), (2, 0, 0, 1, 0), (3, 0, 1, 0)))
        self.made(by_worst, SQUARE, ((0, 1, 2, 3),) * 4, ((0, 1, 2, 3, 2, 3), (1, 0, 2, 3, 3), (2, 0, 1, 3, 3), (3, 0, 2, 2)))

    def test_values_of_chance(self):
        for seed in range(200):
            chance = random.Random(seed)
            collection = random_collection(seed)
            n = collection.n
            orders = tuple(tuple(chance.sample(range(n), n)) for _ in range(n))
            best, worst = [], []
            for member, order in enumerate(orders):
                groups = [group for group in collection.groups if member in group]
                others = [[other for other in order if other in group and other != member] for group in groups]
                others = [told if told else [member] for told in others]
                best.append(tuple(order.index(told[0]) for told in others))
                worst.append(tuple(order.index(told[-1]) for told in others))
            self.made(by_best, collection, orders, tuple(best))
            self.made(by_worst, collection, orders, tuple(worst))

    def test_wrong_values(self):
        for collection, orders in ((ONE, ((0,),)), (HOUSE, ((0, 1), (1, 0))), (TRIO, ((0, 1, 2), (2, 1, 0), (1, 0, 2)))):
            values = odd_values() + altered(orders)
            for function in (by_best, by_worst):
                self.looks_at_values(function, InvalidOrders, collection, values, orders_of(collection.n))

    def test_members_twice_or_lacking(self):
        for row in ((0, 0), (1, 1), (0,), (1,), (), (0, 1, 1), (0, 2), (1, 2), (-1, 0), (False, True), (0, True), [0, 1]):
            for orders in ((row, (0, 1)), ((0, 1), row)):
                self.refuses(InvalidOrders, orders, by_best, HOUSE, orders)
                self.refuses(InvalidOrders, orders, by_worst, HOUSE, orders)


if __name__ == "__main__":
    unittest.main()
