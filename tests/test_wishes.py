"""Points [6] and [7] (but read_wishes), with [1], [2] and [4]."""

import unittest
from collections import namedtuple

from anyvalues import HOUSE, Tests, exact, nested, odd_values, random_wishes
from calmgroups.errors import InvalidNumber, InvalidRanks
from calmgroups.groups import Collection
from calmgroups.wishes import Wishes, is_strict, plain

ONE = Collection(1, [(0,)])
TRIO = Collection(3, [(0, 1, 2), (2,), (1, 2), (1,), (0, 1), (0,)])
RANKS = ((5, 2, 9), (0, 7, 7, 0), (99, 4, 4))


class Making(Tests):
    def test_attributes(self):
        wishes = Wishes(TRIO, RANKS)
        self.assertIs(type(wishes.collection), Collection)
        self.assertEqual(wishes.collection, TRIO)
        self.assertEqual(exact(wishes.ranks), exact(RANKS))
        self.assertLessEqual({"collection", "ranks"}, set(vars(wishes)))

    def test_by_name(self):
        self.assertEqual(Wishes(ranks=RANKS, collection=TRIO), Wishes(TRIO, RANKS))

    def test_ranks_from_0_to_99(self):
        for rank in (0, 1, 50, 98, 99):
            self.assertEqual(exact(Wishes(ONE, ((rank,),)).ranks), exact(((rank,),)))
        for rank in [100, 101, "1", 10 ** 11] + odd_values():
            ranks = ((rank,),)
            self.refuses(InvalidRanks, ranks, Wishes, ONE, ranks)
            ranks = ((0, 1), (0, rank))
            self.refuses(InvalidRanks, ranks, Wishes, HOUSE, ranks)

    def test_any_value(self):
        for ranks in odd_values() + [0, 99, (0,), nested(55), ((0,),) * 15000, ((0,) * 29000,)]:
            self.refuses(InvalidRanks, ranks, Wishes, ONE, ranks)
            self.refuses(InvalidRanks, ranks, Wishes, HOUSE, ranks)
            self.refuses(InvalidRanks, ranks, Wishes, TRIO, ranks)

    def test_lists_in_the_place_of_tuples(self):
        for ranks in ([(0, 1), (0, 1)], ([0, 1], (0, 1)), ((0, 1), [0, 1]), [[0, 1], [0, 1]]):
            self.refuses(InvalidRanks, ranks, Wishes, HOUSE, ranks)

    def test_too_few_and_too_many_members(self):
        for many in (0, 1, 3, 4):
            ranks = ((0, 1),) * many
            self.refuses(InvalidRanks, ranks, Wishes, HOUSE, ranks)

    def test_too_few_and_too_many_groups(self):
        for row in ((), (0,), (0, 1, 2)):
            for ranks in ((row, (0, 1)), ((0, 1), row), (row, row)):
                self.refuses(InvalidRanks, ranks, Wishes, HOUSE, ranks)
        ranks = (RANKS[0], RANKS[2], RANKS[1])
        self.refuses(InvalidRanks, ranks, Wishes, TRIO, ranks)

    def test_plain_tuples_are_kept(self):
        Row = namedtuple("Row", "one two")
        wishes = Wishes(HOUSE, Row(Row(0, 1), Row(2, 3)))
        self.assertEqual(exact(wishes.ranks), exact(((0, 1), (2, 3))))

    def test_changing_the_groups_has_no_effect(self):
        groups = [(0,), (1,), (0, 1)]
        wishes = Wishes(Collection(2, groups), ((0, 1), (0, 1)))
        groups.append((0, 1))
        self.assertEqual(wishes, Wishes(HOUSE, ((0, 1), (0, 1))))


class Rank(Tests):
    def test_right_places(self):
        wishes = Wishes(TRIO, RANKS)
        for member in range(3):
            for at, place in enumerate(TRIO.places_of(member)):
                self.assertEqual(exact(wishes.rank(member, place)), exact(RANKS[member][at]))
        self.assertEqual(wishes.rank(0, 5), 9)
        self.assertEqual(wishes.rank(place=2, member=1), 7)

    def test_wrong_members(self):
        wishes = Wishes(TRIO, RANKS)
        for member in [3, 6] + odd_values():
            self.refuses(InvalidNumber, member, wishes.rank, member, 0)

    def test_wrong_places(self):
        wishes = Wishes(TRIO, RANKS)
        for place in [1, 2, 3, 6, 24] + odd_values():
            self.refuses(InvalidNumber, place, wishes.rank, 0, place)

    def test_false_and_true_are_no_places(self):
        wishes = Wishes(TRIO, RANKS)
        self.assertEqual((wishes.rank(2, 0), wishes.rank(2, 1)), (99, 4))
        self.refuses(InvalidNumber, False, wishes.rank, 2, False)
        self.refuses(InvalidNumber, True, wishes.rank, 2, True)

    def test_the_member_is_told_ahead_of_the_place(self):
        wishes = Wishes(TRIO, RANKS)
        self.refuses(InvalidNumber, 3, wishes.rank, 3, -1)
        self.refuses(InvalidNumber, True, wishes.rank, True, False)
        self.refuses(InvalidNumber, None, wishes.rank, place="x", member=None)

    def test_wishes_stay(self):
        wishes = Wishes(TRIO, RANKS)
        for function in (str, plain, is_strict):
            function(wishes)
        wishes.rank(0, 0)
        self.assertRaises(InvalidNumber, wishes.rank, 0, 1)
        self.assertEqual(exact(wishes.ranks), exact(RANKS))
        self.assertEqual(wishes.collection.groups, TRIO.groups)


class Equality(Tests):
    def test_equal(self):
        for seed in range(60):
            one, other = random_wishes(seed), random_wishes(seed)
            self.assertIs(one == other, True)
            self.assertIs(one != other, False)

    def test_unequal(self):
        turned = Collection(2, [(1,), (0,), (0, 1)])
        wishes = [
            Wishes(HOUSE, ((0, 1), (0, 1))), Wishes(HOUSE, ((1, 0), (0, 1))), Wishes(HOUSE, ((0, 1), (0, 2))),
            Wishes(turned, ((0, 1), (0, 1))), Wishes(ONE, ((0,),)), Wishes(ONE, ((1,),)),
            Wishes(Collection(2, [(0,), (1,)]), ((0,), (0,))),
        ]
        for at, one in enumerate(wishes):
            for by, other in enumerate(wishes):
                self.assertIs(one == other, at == by)
                self.assertIs(one != other, at != by)

    def test_other_things(self):
        class Alike:
            collection = ONE
            ranks = ((0,),)

        class Anything:
            def __eq__(self, other):
                return True

        wishes = Wishes(ONE, ((0,),))
        for other in odd_values() + [ONE, ((0,),), (ONE, ((0,),)), str(wishes), Alike(), Anything()]:
            self.assertIs(wishes == other, False)
            self.assertIs(wishes != other, True)


class Strict(Tests):
    def test_is_strict(self):
        self.assertIs(is_strict(Wishes(ONE, ((7,),))), True)
        self.assertIs(is_strict(Wishes(HOUSE, ((0, 1), (1, 0)))), True)
        self.assertIs(is_strict(Wishes(HOUSE, ((0, 99), (3, 1)))), True)
        self.assertIs(is_strict(Wishes(HOUSE, ((0, 0), (1, 0)))), False)
        self.assertIs(is_strict(Wishes(HOUSE, ((0, 1), (5, 5)))), False)
        self.assertIs(is_strict(wishes=Wishes(TRIO, RANKS)), False)
        self.assertIs(is_strict(Wishes(TRIO, ((0, 1, 0), (0, 1, 2, 3), (0, 1, 2)))), False)
        self.assertIs(is_strict(Wishes(TRIO, ((2, 1, 0), (0, 1, 2, 3), (0, 2, 1)))), True)

    def test_random_wishes(self):
        for seed in range(150):
            wishes = random_wishes(seed)
            doubled = [rank for row in wishes.ranks for rank in row if row.count(rank) > 1]
            self.assertIs(is_strict(wishes), not doubled)


class Plain(Tests):
    def test_groups_in_plain_order(self):
        tidy = plain(Wishes(TRIO, RANKS))
        self.assertIs(type(tidy), Wishes)
        self.assertEqual(exact(tidy.collection.groups), exact(((0,), (1,), (2,), (0, 1), (1, 2), (0, 1, 2))))
        self.assertEqual(exact(tidy.collection.n), exact(3))
        self.assertEqual(exact(tidy.ranks), exact(((2, 0, 1), (1, 0, 1, 0), (0, 0, 1))))

    def test_less_members_come_first(self):
        collection = Collection(3, [(0, 1, 2), (1, 2), (0, 2), (0, 1), (2,), (1,), (0,)])
        tidy = plain(Wishes(collection, ((0, 1, 2, 3), (0, 1, 2, 3), (0, 1, 2, 3))))
        self.assertEqual(tidy.collection.groups, ((0,), (1,), (2,), (0, 1), (0, 2), (1, 2), (0, 1, 2)))
        self.assertEqual(tidy.ranks, ((3, 2, 1, 0), (3, 2, 1, 0), (3, 2, 1, 0)))

    def test_ranks_without_gaps(self):
        self.assertEqual(plain(Wishes(ONE, ((99,),))), Wishes(ONE, ((0,),)))
        self.assertEqual(plain(Wishes(HOUSE, ((99, 98), (7, 7)))), Wishes(HOUSE, ((1, 0), (0, 0))))
        self.assertEqual(plain(wishes=Wishes(HOUSE, ((3, 98), (9, 10)))), Wishes(HOUSE, ((0, 1), (0, 1))))

    def test_random_wishes(self):
        for seed in range(150):
            wishes = random_wishes(seed)
            tidy = plain(wishes)
            self.assertEqual(plain(tidy), tidy)
            groups = wishes.collection.groups
            self.assertEqual(list(tidy.collection.groups), sorted(groups, key=lambda group: (len(group), group)))
            for member in range(wishes.collection.n):
                old = {group: self.rank(wishes, member, group) for group in groups if member in group}
                new = {group: self.rank(tidy, member, group) for group in groups if member in group}
                self.assertEqual(sorted(set(new.values())), list(range(len(set(old.values())))))
                for one in old:
                    for other in old:
                        self.assertEqual(old[one] < old[other], new[one] < new[other])

    def rank(self, wishes, member, group):
        return wishes.rank(member, wishes.collection.place(group))


class Text(Tests):
    def test_text(self):
        self.assertEqual(exact(str(Wishes(ONE, ((4,),)))), exact("0: 0"))
        self.assertEqual(str(Wishes(HOUSE, ((1, 0), (0, 1)))), "0: 01 > 0\n1: 1 > 01")
        self.assertEqual(str(Wishes(HOUSE, ((5, 5), (99, 98)))), "0: 0 = 01\n1: 01 > 1")

    def test_ties_stand_in_plain_order(self):
        self.assertEqual(str(Wishes(TRIO, RANKS)), "0: 01 > 012 > 0\n1: 01 = 012 > 1 = 12\n2: 2 = 12 > 012")
        collection = Collection(3, [(0, 1, 2), (0, 2), (0,), (0, 1), (2,), (1,)])
        wishes = Wishes(collection, ((8, 8, 9, 3), (0, 0, 0), (1, 1, 0)))
        self.assertEqual(str(wishes), "0: 01 > 02 = 012 > 0\n1: 1 = 01 = 012\n2: 2 > 02 = 012")

    def test_six_members(self):
        collection = Collection(6, [(0, 1, 2, 3, 4, 5), (5,), (4,), (3,), (2,), (1,), (0,), (3, 5)])
        wishes = Wishes(collection, ((0, 1), (1, 0), (2, 2), (0, 1, 2), (1, 0), (2, 1, 0)))
        self.assertEqual(str(wishes), "\n".join([
            "0: 012345 > 0", "1: 1 > 012345", "2: 2 = 012345", "3: 012345 > 3 > 35", "4: 4 > 012345",
            "5: 35 > 5 > 012345"]))

    def test_random_texts_tell_the_plain_form(self):
        for seed in range(150):
            wishes = random_wishes(seed)
            self.assertEqual(str(plain(wishes)), str(wishes))
            self.assertEqual(self.read(str(wishes)), plain(wishes))

    def read(self, text):
        lines = text.split("\n")
        told = []
        for member, line in enumerate(lines):
            self.assertTrue(line.startswith(f"{member}: "))
            told.append({})
            for rank, step in enumerate(line[3:].split(" > ")):
                names = step.split(" = ")
                self.assertEqual(names, sorted(names, key=lambda name: (len(name), name)))
                told[member].update({tuple(int(figure) for figure in name): rank for name in names})
        groups = sorted({group for row in told for group in row}, key=lambda group: (len(group), group))
        ranks = tuple(tuple(row[group] for group in groups if group in row) for row in told)
        return Wishes(Collection(len(lines), groups), ranks)


class Iteration(Tests):
    def test_not_iterable(self):
        wishes = Wishes(HOUSE, ((0, 1), (0, 1)))
        for function in (iter, list, tuple, set, sorted, reversed, len):
            self.assertRaises(TypeError, function, wishes)
        with self.assertRaises(TypeError):
            0 in wishes


if __name__ == "__main__":
    unittest.main()
