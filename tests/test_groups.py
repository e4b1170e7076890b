"""Point [5], with [1], [2] and [4]."""

import unittest
from collections import namedtuple

from anyvalues import Tests, all_groups, exact, nested, odd_values, random_collection
from calmgroups.errors import InvalidGroup, InvalidGroups, InvalidNumber
from calmgroups.groups import Collection, is_group
from calmgroups.wishes import Wishes


def alone(n):
    return [(member,) for member in range(n)]


class IsGroup(Tests):
    def test_all_groups(self):
        for n in range(1, 7):
            groups = all_groups(n)
            self.assertEqual(len(groups), 2 ** n - 1)
            for group in groups:
                self.assertIs(is_group(group, n), True)

    def test_members_below_n(self):
        for n in range(7):
            self.assertIs(is_group((n,), n), False)
            self.assertIs(is_group(tuple(range(n + 1)), n), False)
            self.assertIs(is_group((-1,), n), False)
        self.assertIs(is_group((0,), 0), False)
        self.assertIs(is_group((), 0), False)
        self.assertIs(is_group((5,), 6), True)
        self.assertIs(is_group((10 ** 12 - 1,), 6), False)

    def test_order(self):
        for value in ((1, 0), (0, 0), (0, 2, 1), (0, 1, 1), (2, 0, 1), (0, 1, 0)):
            self.assertIs(is_group(value, 6), False, value)

    def test_any_value(self):
        for n in range(7):
            for value in odd_values():
                self.assertIs(is_group(value, n), False, value)

    def test_large_values(self):
        self.assertIs(is_group(tuple(range(29000)), 6), False)
        self.assertIs(is_group((0,) * 29000, 6), False)
        self.assertIs(is_group((0, nested(58)), 6), False)

    def test_by_name(self):
        self.assertIs(is_group(n=2, value=(0, 1)), True)


class Making(Tests):
    def test_one_to_six_members(self):
        for n in range(1, 7):
            groups = all_groups(n)[:24]
            collection = Collection(n, groups)
            self.assertEqual(exact(collection.n), exact(n))
            self.assertEqual(exact(collection.groups), exact(tuple(groups)))
            self.assertEqual(exact(len(collection)), exact(len(groups)))

    def test_the_order_passed_stays(self):
        groups = ((1, 2), (2,), (0, 1, 2), (0,), (1,))
        self.assertEqual(exact(Collection(3, groups).groups), exact(groups))
        self.assertEqual(exact(Collection(3, groups[::-1]).groups), exact(groups[::-1]))

    def test_wrong_n(self):
        for n in [0, 7, 8, "1", 10 ** 11, "", (1,), [1]] + odd_values():
            self.refuses(InvalidNumber, n, Collection, n, [(0,)])

    def test_n_is_told_ahead_of_groups(self):
        self.refuses(InvalidNumber, 0, Collection, 0, None)
        self.refuses(InvalidNumber, True, Collection, True, [(1,)])
        self.refuses(InvalidNumber, None, Collection, groups=[], n=None)

    def test_any_value_as_groups(self):
        for n in (1, 2, 6):
            for groups in odd_values():
                self.refuses(InvalidGroups, groups, Collection, n, groups)

    def test_24_and_25_groups(self):
        for n in (5, 6):
            for kind in (list, tuple):
                groups = kind(all_groups(n)[:24])
                self.assertEqual(len(Collection(n, groups)), 24)
                groups = kind(all_groups(n)[:25])
                self.refuses(InvalidGroups, groups, Collection, n, groups)

    def test_many_groups(self):
        for groups in ([(0,)] * 29000, [0] * 29000, (nested(50),) * 500):
            self.refuses(InvalidGroups, groups, Collection, 1, groups)

    def test_a_member_alone_lacking(self):
        for n in range(1, 7):
            for member in range(n):
                groups = [group for group in all_groups(n)[:20] if group != (member,)]
                self.refuses(InvalidGroups, groups, Collection, n, groups)

    def test_a_group_doubled(self):
        for groups in ([(0,), (1,), (0,)], ((0,), (1,), (0, 1), (0, 1)), [(0,), (0,), (1,), (0, 1)]):
            self.refuses(InvalidGroups, groups, Collection, 2, groups)

    def test_a_wrong_group(self):
        for group in [(2,), (0, 2), (1, 0), (0, 0), (0, 1, 1), 0, 1] + odd_values():
            for groups in ([(0,), (1,), group], (group, (0,), (1,)), ((0,), (1,), (0, 1), group)):
                self.refuses(InvalidGroups, groups, Collection, 2, groups)

    def test_a_bool_stands_for_no_member_alone(self):
        for groups in ([(False,), (1,)], [(0,), (True,)], [(0,), (1,), (0, True)], [(0,), (1,), (False, 1)]):
            self.refuses(InvalidGroups, groups, Collection, 2, groups)

    def test_groups_that_are_lists(self):
        for groups in ([[0], (1,)], ([0], [1]), [(0,), (1,), [0, 1]]):
            self.refuses(InvalidGroups, groups, Collection, 2, groups)

    def test_no_other_sequence(self):
        for groups in ({(0,): 1}, {(0,)}, range(1), iter([(0,)]), "0", b"0"):
            self.refuses(InvalidGroups, groups, Collection, 1, groups)

    def test_changing_the_list_has_no_effect(self):
        groups = [(0,), (1,)]
        collection = Collection(2, groups)
        groups.append((0, 1))
        groups[0] = None
        self.assertEqual(exact(collection.groups), exact(((0,), (1,))))
        self.assertEqual(len(collection), 2)

    def test_the_argument_is_not_changed(self):
        groups = [(1,), (0, 1), (0,)]
        Collection(2, groups)
        self.assertEqual(exact(groups), exact([(1,), (0, 1), (0,)]))

    def test_plain_tuples_are_kept(self):
        Pair = namedtuple("Pair", "a b")
        collection = Collection(2, [(0,), (1,), Pair(0, 1)])
        self.assertEqual(exact(collection.groups), exact(((0,), (1,), (0, 1))))
        collection = Collection(2, [(0,), (1,)]).with_group(Pair(0, 1))
        self.assertEqual(exact(collection.groups), exact(((0,), (1,), (0, 1))))

    def test_by_name(self):
        self.assertEqual(Collection(groups=[(0,)], n=1), Collection(1, ((0,),)))

    def test_attributes_are_set_when_made(self):
        self.assertLessEqual({"n", "groups"}, set(vars(Collection(1, [(0,)]))))


class Equality(Tests):
    def test_equal(self):
        for seed in range(60):
            one, other = random_collection(seed), random_collection(seed)
            self.assertIs(one == other, True)
            self.assertIs(one != other, False)
            self.assertIs(one == Collection(one.n, list(one.groups)), True)

    def test_other_collections(self):
        collections = [
            Collection(1, [(0,)]), Collection(2, [(0,), (1,)]), Collection(2, [(1,), (0,)]),
            Collection(2, [(0,), (1,), (0, 1)]), Collection(2, [(0,), (0, 1), (1,)]), Collection(3, [(0,), (1,), (2,)]),
        ]
        for at, one in enumerate(collections):
            for by, other in enumerate(collections):
                self.assertIs(one == other, at == by)
                self.assertIs(one != other, at != by)

    def test_other_things(self):
        class Alike:
            n = 1
            groups = ((0,),)

        class Anything:
            def __eq__(self, other):
                return True

        collection = Collection(1, [(0,)])
        others = [((0,),), (1, ((0,),)), [(0,)], 1, 0, Wishes(collection, ((0,),)), Alike(), Anything()]
        for other in odd_values() + others:
            self.assertIs(collection == other, False)
            self.assertIs(collection != other, True)


class Places(Tests):
    def setUp(self):
        self.groups = ((1, 2), (2,), (0, 1, 2), (0,), (1,), (0, 2))
        self.collection = Collection(3, self.groups)

    def tearDown(self):
        self.assertEqual(exact(self.collection.groups), exact(self.groups))
        self.assertEqual(exact(self.collection.n), exact(3))

    def test_places_of(self):
        self.assertEqual(exact(self.collection.places_of(0)), exact((2, 3, 5)))
        self.assertEqual(exact(self.collection.places_of(1)), exact((0, 2, 4)))
        self.assertEqual(exact(self.collection.places_of(member=2)), exact((0, 1, 2, 5)))

    def test_places_of_wrong_members(self):
        for member in [3, 6, (0,)] + odd_values():
            self.refuses(InvalidNumber, member, self.collection.places_of, member)
        for n in range(1, 7):
            self.refuses(InvalidNumber, n, Collection(n, alone(n)).places_of, n)

    def test_place(self):
        for place, group in enumerate(self.groups):
            self.assertEqual(exact(self.collection.place(group)), exact(place))
        self.assertEqual(self.collection.place(group=(0, 2)), 5)

    def test_place_of_wrong_groups(self):
        for group in [(0, 1), (3,), (0, 3), (2, 1), 0, [1, 2]] + odd_values():
            self.refuses(InvalidGroup, group, self.collection.place, group)

    def test_place_of_groups_with_bools(self):
        for group in ((False,), (True,), (True, 2), (False, True, 2), (0, True, 2), (False, 2)):
            self.refuses(InvalidGroup, group, self.collection.place, group)

    def test_with_group(self):
        larger = self.collection.with_group((0, 1))
        self.assertIs(type(larger), Collection)
        self.assertEqual(exact(larger.groups), exact(self.groups + ((0, 1),)))
        self.assertEqual(larger.n, 3)
        self.assertEqual(larger.place((0, 1)), 6)
        self.assertEqual(larger, self.collection.with_group(group=(0, 1)))

    def test_with_a_wrong_group(self):
        for group in list(self.groups) + [(3,), (0, 3), (1, 0), 0, [0, 1], (False, 1), (0, True)] + odd_values():
            self.refuses(InvalidGroup, group, self.collection.with_group, group)

    def test_without(self):
        for place in (0, 2, 5):
            smaller = self.collection.without(place)
            self.assertIs(type(smaller), Collection)
            self.assertEqual(exact(smaller.groups), exact(self.groups[:place] + self.groups[place + 1:]))
            self.assertEqual(smaller.n, 3)
        self.assertEqual(self.collection.without(place=0), self.collection.without(0))

    def test_without_a_wrong_place(self):
        for place in [1, 3, 4, 6, 24, (0, 2), (1, 2)] + odd_values():
            self.refuses(InvalidNumber, place, self.collection.without, place)

    def test_false_and_true_are_no_places(self):
        collection = Collection(2, [(0, 1), (0,), (1,)])
        self.refuses(InvalidNumber, False, collection.without, False)
        collection = Collection(2, [(0,), (0, 1), (1,)])
        self.refuses(InvalidNumber, True, collection.without, True)
        self.refuses(InvalidNumber, True, collection.places_of, True)


class Bounds(Tests):
    def test_with_group_up_to_24(self):
        for n in (5, 6):
            groups = all_groups(n)
            collection = Collection(n, groups[:23]).with_group(groups[23])
            self.assertEqual(collection, Collection(n, groups[:24]))
            self.refuses(InvalidGroup, groups[24], collection.with_group, groups[24])
            self.refuses(InvalidGroup, groups[0], collection.with_group, groups[0])
            self.refuses(InvalidGroup, None, collection.with_group, None)
            self.assertEqual(len(collection.without(23)), 23)

    def test_one_member(self):
        collection = Collection(1, [(0,)])
        self.assertEqual(collection.places_of(0), (0,))
        self.assertEqual(collection.place((0,)), 0)
        self.refuses(InvalidGroup, (1,), collection.with_group, (1,))
        self.refuses(InvalidNumber, 0, collection.without, 0)

    def test_random_collections(self):
        for seed in range(150):
            collection = random_collection(seed)
            groups = collection.groups
            for member in range(collection.n):
                expected = tuple(place for place in range(len(groups)) if member in groups[place])
                self.assertEqual(exact(collection.places_of(member)), exact(expected))
            for group in all_groups(collection.n):
                if group in groups:
                    self.assertEqual(groups[collection.place(group)], group)
                    self.refuses(InvalidGroup, group, collection.with_group, group)
                elif len(groups) < 24:
                    self.refuses(InvalidGroup, group, collection.place, group)
                    larger = collection.with_group(group)
                    self.assertEqual(larger.groups, groups + (group,))
                    if len(group) > 1:
                        self.assertEqual(larger.without(len(groups)), collection)
            self.assertIs(collection.groups, groups)


class Iteration(Tests):
    def test_not_iterable(self):
        collection = Collection(2, [(0,), (1,), (0, 1)])
        for function in (iter, list, tuple, set, sorted, reversed):
            self.assertRaises(TypeError, function, collection)
        with self.assertRaises(TypeError):
            (0,) in collection
        with self.assertRaises(TypeError):
            one, two, three = collection


if __name__ == "__main__":
    unittest.main()
