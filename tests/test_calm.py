"""Point [10], and promises (1) and (2)."""

import unittest

from anyvalues import (
    HOUSE, Tests, due_calm, due_lots, exact, full_collection, likings, odd_values, own_of, random_collection,
    random_wishes, strict_wishes)
from calmgroups.calm import better_lot, calm_lots, firm_lots, leaves, leaves_softly, leaving
from calmgroups.errors import InvalidLot, InvalidNumber
from calmgroups.groups import Collection
from calmgroups.wishes import Wishes

PAIRS = Collection(3, [(0,), (1,), (2,), (0, 1), (1, 2), (0, 2)])
# Each member likes the next one best: 0 likes 01, 1 likes 12, 2 likes 02.
CIRCLE = Wishes(PAIRS, ((2, 0, 1), (2, 1, 0), (2, 1, 0)))


def due_leaving(wishes, lot, softly):
    """The places of the groups that leave the lot, softly or not."""
    told, own = likings(wishes), own_of(wishes, lot)
    found = []
    for place, group in enumerate(wishes.collection.groups):
        signs = {(told[member][place] > own[member]) - (told[member][place] < own[member]) for member in group}
        if signs == {-1} or softly and signs == {-1, 0}:
            found.append(place)
    return found


def due_better(wishes, lot):
    """The first lot that is better for some member and not worse for any."""
    own = own_of(wishes, lot)
    for other in due_lots(wishes.collection):
        ranks = own_of(wishes, other)
        if all(one <= two for one, two in zip(ranks, own)) and any(one < two for one, two in zip(ranks, own)):
            return other
    return None


def wishes_of_all_sizes():
    """Wishes of chance with ties and without, of 1 to 6 members."""
    return ([random_wishes(seed) for seed in range(50)]
            + [strict_wishes(random_collection(seed), seed) for seed in range(50)])


def all_lots():
    return [(wishes, lot) for wishes in wishes_of_all_sizes() for lot in due_lots(wishes.collection)]


class Leaving(Tests):
    def test_small(self):
        wishes = Wishes(HOUSE, ((1, 0), (0, 1)))
        self.assertIs(leaves(wishes, (2,), 1), True)
        self.assertIs(leaves(wishes, (2,), 0), False)
        self.assertIs(leaves(wishes, (0, 1), 2), False)
        self.assertIs(leaves(place=1, lot=(2,), wishes=wishes), True)
        self.same(leaving(wishes, (2,)), 1)
        self.assertIsNone(leaving(wishes=wishes, lot=(0, 1)))

    def test_ties(self):
        wishes = Wishes(HOUSE, ((0, 0), (3, 1)))
        self.assertIs(leaves(wishes, (0, 1), 2), False)
        self.assertIs(leaves_softly(wishes, (0, 1), 2), True)
        self.assertIs(leaves_softly(lot=(0, 1), wishes=wishes, place=2), True)
        self.assertIs(leaves_softly(wishes, (2,), 0), False)
        self.assertIs(leaves_softly(wishes, (2,), 1), False)
        worse = Wishes(HOUSE, ((0, 1), (3, 1)))
        self.assertIs(leaves_softly(worse, (0, 1), 2), False)
        level = Wishes(HOUSE, ((2, 2), (5, 5)))
        self.assertIs(leaves_softly(level, (0, 1), 2), False)
        self.assertIs(leaves_softly(level, (2,), 0), False)

    def test_each_place_and_each_lot(self):
        for wishes, lot in all_lots():
            plainly, softly = due_leaving(wishes, lot, False), due_leaving(wishes, lot, True)
            for place in range(len(wishes.collection)):
                self.assertIs(leaves(wishes, lot, place), place in plainly)
                self.assertIs(leaves_softly(wishes, lot, place), place in softly)
            for place in lot:
                self.assertIs(leaves(wishes, lot, place), False)
                self.assertIs(leaves_softly(wishes, lot, place), False)
            self.same(leaving(wishes, lot), plainly[0] if plainly else None)

    def test_wrong_lots_ahead_of_wrong_places(self):
        for lot in odd_values() + [(2, 1, 0), (4, 0), [0, 1, 2], [0, 4], (False, 4), (0, True, 2), (0,), (3,), (0, 1, 2, 3), (6,)]:
            for place in (0, 3, -1, None, True, lot):
                self.refuses(InvalidLot, lot, leaves, CIRCLE, lot, place)
                self.refuses(InvalidLot, lot, leaves_softly, CIRCLE, lot, place)
            for function in (leaving, better_lot):
                self.refuses(InvalidLot, lot, function, CIRCLE, lot)
                self.refuses(InvalidLot, lot, function, lot=lot, wishes=CIRCLE)

    def test_wrong_places(self):
        for place in odd_values() + [6, 7, 24, (0,), "0", [3]]:
            self.refuses(InvalidNumber, place, leaves, CIRCLE, (0, 1, 2), place)
            self.refuses(InvalidNumber, place, leaves_softly, CIRCLE, (0, 1, 2), place)


class Lots(Tests):
    def test_without_a_calm_lot(self):
        self.same(calm_lots(CIRCLE), ())
        self.same(firm_lots(CIRCLE), ())
        self.assertEqual([leaving(CIRCLE, lot) for lot in ((0, 1, 2), (0, 4), (1, 5), (2, 3))], [3, 5, 3, 4])

    def test_small(self):
        self.same(calm_lots(Wishes(HOUSE, ((1, 0), (1, 0)))), ((2,),))
        self.same(calm_lots(wishes=Wishes(HOUSE, ((0, 0), (1, 0)))), ((0, 1), (2,)))
        self.same(firm_lots(wishes=Wishes(HOUSE, ((0, 0), (1, 0)))), ((2,),))
        self.same(firm_lots(Wishes(HOUSE, ((7, 7), (0, 0)))), ((0, 1), (2,)))

    def test_calm_lots(self):
        for wishes in wishes_of_all_sizes() + [random_wishes(seed) for seed in range(50, 150)]:
            self.same(calm_lots(wishes), tuple(due_calm(wishes)))

    def test_firm_lots(self):
        for wishes in wishes_of_all_sizes() + [random_wishes(seed) for seed in range(50, 150)]:
            lots = [lot for lot in due_lots(wishes.collection) if not due_leaving(wishes, lot, True)]
            self.same(firm_lots(wishes), tuple(lots))
            for lot in lots:
                self.assertIn(lot, due_calm(wishes))
                self.assertIsNone(due_better(wishes, lot))
                self.assertIsNone(better_lot(wishes, lot))

    def test_24_groups(self):
        for seed in range(3):
            wishes = strict_wishes(full_collection(seed), seed)
            self.same(calm_lots(wishes), tuple(due_calm(wishes)))

    def test_calls_again(self):
        wishes = random_wishes(3)
        before = exact(wishes.ranks)
        self.same(calm_lots(wishes), calm_lots(random_wishes(3)))
        self.same(firm_lots(wishes), firm_lots(random_wishes(3)))
        self.assertEqual(exact(wishes.ranks), before)


class Better(Tests):
    def test_small(self):
        self.same(better_lot(Wishes(HOUSE, ((1, 0), (1, 0))), (0, 1)), (2,))
        self.same(better_lot(Wishes(HOUSE, ((1, 1), (1, 0))), (0, 1)), (2,))
        self.assertIsNone(better_lot(Wishes(HOUSE, ((1, 0), (0, 1))), (0, 1)))
        self.assertIsNone(better_lot(wishes=Wishes(HOUSE, ((1, 1), (0, 0))), lot=(0, 1)))

    def test_the_first_one(self):
        wishes = Wishes(PAIRS, ((2, 0, 0), (2, 0, 0), (2, 0, 0)))
        self.same(better_lot(wishes, (0, 1, 2)), (0, 4))
        self.assertIsNone(better_lot(wishes, (1, 5)))

    def test_every_lot(self):
        for wishes, lot in all_lots()[::3]:
            self.same(better_lot(wishes, lot), due_better(wishes, lot))


if __name__ == "__main__":
    unittest.main()
