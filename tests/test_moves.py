"""Points [19] and [20], and promises (11), (12) and (13)."""

import functools
import random
import unittest
from itertools import permutations, product

from anyvalues import (
    HOUSE, Tests, all_groups, altered, by_lists, due_lots, exact, full_collection, odd_circle, odd_values,
    of_pairs, own_of, random_collection, random_wishes, shaped, strict_wishes)
from calmgroups.errors import InvalidKind, InvalidLot, InvalidValues
from calmgroups.groups import Collection
from calmgroups.makers import by_numbers
from calmgroups.moves import heights, heights_hold, move_ring, move_ring_holds, moves, rests, worth
from calmgroups.wishes import Wishes

KINDS = ("free", "welcome", "agreed")
ONE = Collection(1, [(0,)])
TRIANGLE = of_pairs(3, [(0, 1), (1, 2), (0, 2)])
# 0 likes to be with 1, and 1 likes to be alone.
CHASE = Wishes(HOUSE, ((1, 0), (0, 1)))
WRONG_KINDS = odd_values() + ["Free", "free ", "welcom", "end", ("free",), ["free"], ("free", "welcome", "agreed")]
# A circle of welcome and agreed moves: 0 goes from 1 to 2 and 3 in turn, who do not mind.
RUNNER = Wishes(of_pairs(4, [(0, 1), (0, 2), (0, 3)]), ((3, 2, 1, 0), (0, 0), (0, 0), (0, 0)))


def eager(seed, top):
    """Wishes of chance of members who like to be alone least of all, so that there is much to move."""
    chance = random.Random(seed)
    n = chance.randint(2, 6)
    more = [group for group in all_groups(n) if len(group) > 1]
    groups = [(member,) for member in range(n)] + chance.sample(more, min(len(more), chance.randint(3, 18)))
    chance.shuffle(groups)
    collection = Collection(n, groups)
    rows = [tuple(top if groups[place] == (member,) else chance.randint(0, top) for place in collection.places_of(member))
            for member in range(n)]
    return Wishes(collection, tuple(rows))


def some_wishes():
    """Wishes of 1 to 6 members, with ties and without."""
    found = [Wishes(ONE, ((3,),)), CHASE, RUNNER, odd_circle(3), odd_circle(5), by_lists([1], [0], [3], [2])]
    found += [random_wishes(seed) for seed in range(40)]
    found += [strict_wishes(random_collection(seed), seed) for seed in range(40)]
    found += [eager(seed, top) for seed in range(30) for top in (1, 3, 99)]
    return found + [strict_wishes(full_collection(seed), seed) for seed in range(3)]


def seen(wishes, lot):
    """Of each member its rank in the lot, those in one group with it, and the groups of all others without it."""
    groups = [frozenset(wishes.collection.groups[place]) for place in lot]
    found = []
    for member, rank in enumerate(own_of(wishes, lot)):
        rest = frozenset(group - {member} for group in groups) - {frozenset()}
        found.append((rank, [group - {member} for group in groups if member in group][0], rest))
    return found


def due_pairs(wishes, kind):
    """By lot the moves from it: another lot differs by one member's place alone, and is liked as the kind asks."""
    views = {lot: seen(wishes, lot) for lot in due_lots(wishes.collection)}
    found = {lot: [] for lot in views}
    for lot, other in permutations(views, 2):
        for member, ((rank, mates, rest), (better, company, left)) in enumerate(zip(views[lot], views[other])):
            asked = {"free": set(), "welcome": company, "agreed": company | mates}[kind]
            if rest == left and better < rank and all(views[other][one][0] <= views[lot][one][0] for one in asked):
                found[lot].append((member, other))
    return {lot: tuple(sorted(pairs)) for lot, pairs in found.items()}


def due_ways(wishes, kind):
    """By lot the lots that moves lead to."""
    return {lot: {other for _, other in pairs} for lot, pairs in due_pairs(wishes, kind).items()}


@functools.cache
def all_ways():
    """Each of some wishes with each kind and its ways, reckoned once for all tests."""
    return [(wishes, kind, due_ways(wishes, kind)) for wishes in some_wishes() for kind in KINDS]


def due_heights(ways):
    """The greatest numbers of moves, in the order of lots; None if moves need not end."""
    found = {lot: 0 for lot in ways}
    # Behind k rounds each lot has the greatest number of moves up to k.
    for _ in ways:
        found = {lot: max([found[other] + 1 for other in ways[lot]], default=0) for lot in ways}
    if any(number >= len(ways) for number in found.values()):
        return None
    return tuple(found[lot] for lot in sorted(ways))


def are_heights(ways, value):
    """Whether a value of any kind has for each lot a number that is less behind each move."""
    if not shaped(value, [int]) or len(value) != len(ways) or any(number < 0 for number in value):
        return False
    told = dict(zip(sorted(ways), value))
    return all(told[other] < told[lot] for lot in ways for other in ways[lot])


def is_ring(ways, value):
    """Whether a value of any kind is a ring of moves."""
    if not shaped(value, [[int]]) or len(value) < 2 or len(set(value)) < len(value):
        return False
    if not all(lot in ways for lot in value):
        return False
    return all(other in ways[lot] for lot, other in zip(value, value[1:] + value[:1]))


class Moves(Tests):
    def test_small(self):
        self.same(moves(CHASE, (0, 1), "free"), ((0, (2,)),))
        self.same(moves(CHASE, (0, 1), "welcome"), ())
        self.same(moves(CHASE, (2,), "free"), ((1, (0, 1)),))
        self.same(moves(CHASE, (2,), "welcome"), ((1, (0, 1)),))
        self.same(moves(CHASE, (2,), "agreed"), ())
        self.same(moves(kind="agreed", lot=(2,), wishes=Wishes(HOUSE, ((0, 0), (0, 1)))), ((1, (0, 1)),))
        self.same(moves(Wishes(HOUSE, ((0, 1), (0, 1))), (2,), "free"), ((0, (0, 1)), (1, (0, 1))))
        self.same(moves(Wishes(ONE, ((3,),)), (0,), "free"), ())

    def test_ties_do_not_lead_on_and_do_not_bar(self):
        self.same(moves(Wishes(HOUSE, ((1, 1), (1, 1))), (0, 1), "free"), ())
        self.same(moves(Wishes(HOUSE, ((1, 1), (1, 0))), (0, 1), "agreed"), ((1, (2,)),))

    def test_what_is_left_and_what_is_come_to_must_be_groups(self):
        collection = Collection(4, [(0,), (1,), (2,), (3,), (0, 1, 2), (0, 3), (1, 2)])
        wishes = Wishes(collection, ((2, 1, 0), (0, 1, 1), (0, 1, 1), (1, 0)))
        # 0 leaves 1 and 2 together; without 1 or 2 there is no group of the others.
        self.same(moves(wishes, (3, 4), "free"), ((0, (5, 6)),))
        self.same(moves(Wishes(collection, ((0, 1, 1),) + wishes.ranks[1:]), (3, 4), "free"), ((0, (0, 3, 6)),))
        self.same(moves(wishes, (5, 6), "free"), ((1, (1, 2, 5)), (2, (1, 2, 5))))
        self.same(moves(wishes, (0, 1, 2, 3), "free"), ((0, (1, 2, 5)), (3, (1, 2, 5))))
        self.same(moves(wishes, (1, 2, 5), "free"), ())

    def test_all_moves_of_each_kind(self):
        told = set()
        for wishes in some_wishes():
            due = {kind: due_pairs(wishes, kind) for kind in KINDS}
            for lot in due_lots(wishes.collection):
                for kind in KINDS:
                    self.same(moves(wishes, lot, kind), due[kind][lot])
                free, welcome, agreed = [len(due[kind][lot]) for kind in KINDS]
                told.add((free > welcome, welcome > agreed, agreed > 0))
        self.assertEqual(len(told), 8)

    def test_none_of_a_member_alone_to_be_alone(self):
        for wishes in some_wishes():
            for lot in due_lots(wishes.collection):
                for _, other in moves(wishes, lot, "free"):
                    self.assertNotEqual(other, lot)

    def test_lots_ahead_of_kinds(self):
        for lot in odd_values() + [(2, 1, 0), (4, 0), [0, 1, 2], [0, 4], (False, 4), (0, True, 2), (0,), (3,), (6,)]:
            for kind in ("free", "agreed", None, "none", lot):
                self.refuses(InvalidLot, lot, moves, odd_circle(3), lot, kind)
        self.refuses(InvalidLot, None, moves, kind="free", lot=None, wishes=CHASE)

    def test_wrong_kinds(self):
        for kind in WRONG_KINDS:
            self.refuses(InvalidKind, kind, moves, CHASE, (2,), kind)
            for function in (rests, heights, move_ring):
                self.refuses(InvalidKind, kind, function, CHASE, kind)
                self.refuses(InvalidKind, kind, function, odd_circle(3), kind)
                self.refuses(InvalidKind, kind, function, kind=kind, wishes=CHASE)


class Rests(Tests):
    def test_small(self):
        self.same(rests(CHASE, "free"), ())
        self.same(rests(CHASE, "welcome"), ((0, 1),))
        self.same(rests(kind="agreed", wishes=CHASE), ((0, 1), (2,)))

    def test_all_lots(self):
        for wishes, kind, ways in all_ways():
            self.same(rests(wishes, kind), tuple(lot for lot in due_lots(wishes.collection) if not ways[lot]))


class Heights(Tests):
    def test_small(self):
        self.same(heights(CHASE, "welcome"), (0, 1))
        self.same(heights(kind="agreed", wishes=CHASE), (0, 0))
        self.same(heights(Wishes(HOUSE, ((1, 0), (1, 0))), "free"), (1, 0))
        self.same(heights(Wishes(ONE, ((5,),)), "free"), (0,))
        self.undefined("ring", heights, CHASE, "free")
        self.undefined("ring", heights, kind="free", wishes=CHASE)

    def test_welcome_and_agreed_moves(self):
        self.same(due_lots(RUNNER.collection), [(0, 1, 2, 3), (1, 2, 6), (1, 3, 5), (2, 3, 4)])
        self.same(heights(RUNNER, "welcome"), (3, 0, 1, 2))
        self.same(heights(RUNNER, "agreed"), (3, 0, 1, 2))
        held = Wishes(RUNNER.collection, ((3, 2, 1, 0), (1, 0), (0, 0), (0, 0)))
        self.same(heights(held, "welcome"), (3, 0, 1, 2))
        self.same(heights(held, "agreed"), (2, 0, 1, 0))

    def test_the_greatest_numbers(self):
        told = {kind: set() for kind in KINDS}
        for wishes, kind, ways in all_ways():
            due = due_heights(ways)
            if due is None:
                self.undefined("ring", heights, wishes, kind)
            else:
                self.same(heights(wishes, kind), due)
                self.assertIs(heights_hold(wishes, kind, due), True)
            told[kind].add(due is None)
        # Nobody is worse behind an agreed move, so these always end.
        self.assertEqual(told, {"free": {True, False}, "welcome": {True, False}, "agreed": {False}})

    def test_calls_again(self):
        for seed in range(10):
            wishes = eager(seed, 3)
            before = exact(wishes.ranks)
            again = Wishes(Collection(wishes.collection.n, list(wishes.collection.groups)), wishes.ranks)
            for kind in KINDS:
                function = move_ring if due_heights(due_ways(wishes, kind)) is None else heights
                self.same(function(wishes, kind), function(again, kind))
            self.assertEqual(exact(wishes.ranks), before)


class MoveRing(Tests):
    def test_small(self):
        self.assertIn(move_ring(CHASE, "free"), (((0, 1), (2,)), ((2,), (0, 1))))
        self.undefined("heights", move_ring, CHASE, "welcome")
        self.undefined("heights", move_ring, kind="agreed", wishes=CHASE)
        self.undefined("heights", move_ring, RUNNER, "free")

    def test_rings(self):
        lengths = set()
        for wishes, kind, ways in all_ways():
            if due_heights(ways) is None:
                ring = move_ring(wishes, kind)
                self.assertTrue(is_ring(ways, ring), ring)
                self.assertIs(move_ring_holds(wishes, kind, ring), True)
                lengths.add(len(ring))
            else:
                self.undefined("heights", move_ring, wishes, kind)
        self.assertTrue({2, 3} <= lengths, lengths)


class HeightsHold(Tests):
    def test_other_heights(self):
        for wishes, kind, ways in all_ways()[::2]:
            due = due_heights(ways)
            if due is not None:
                for value in (tuple(2 * one for one in due), tuple(one + 1 for one in due),
                              tuple(10 ** 11 * one + 7 for one in due)):
                    self.assertIs(heights_hold(wishes, kind, value), True)
                for value in (list(due), tuple(one - 1 for one in due), due + (0,), due[:-1], due[1:], (due,)):
                    self.assertIs(heights_hold(wishes, kind, value), are_heights(ways, value), value)

    def test_one_more_or_less_at_one_place(self):
        told = set()
        for wishes, kind, ways in all_ways()[::2]:
            due = due_heights(ways) or (0,) * len(ways)
            values = [due[::-1], due[1:] + due[:1]]
            for at, more in product(range(len(due)), (-1, 1)):
                values.append(due[:at] + (due[at] + more,) + due[at + 1:])
            for value in values:
                told.add(are_heights(ways, value))
                self.assertIs(heights_hold(wishes, kind, value), are_heights(ways, value), value)
        self.assertEqual(told, {True, False})

    def test_changed_values(self):
        for wishes in (CHASE, RUNNER, Wishes(ONE, ((0,),)), eager(2, 3), eager(4, 3)):
            for kind in KINDS:
                ways = due_ways(wishes, kind)
                for value in altered(due_heights(ways) or (0,) * len(ways)):
                    self.assertIs(heights_hold(wishes, kind, value), are_heights(ways, value), value)

    def test_bools(self):
        self.assertIs(heights_hold(value=(0, 1), kind="welcome", wishes=CHASE), True)
        for value in ((False, 1), (0, True), (False, True), [0, 1], (0, 0), (1, 0), (0,), (0, 1, 2), (-1, 0), (-1, 1)):
            self.assertIs(heights_hold(CHASE, "welcome", value), False, value)

    def test_values_and_kinds_of_any_kind(self):
        for wishes in (CHASE, RUNNER, odd_circle(3)):
            for kind in KINDS:
                ways = due_ways(wishes, kind)
                for value in odd_values() + [(one,) * len(ways) for one in odd_values()]:
                    self.assertIs(heights_hold(wishes, kind, value), are_heights(ways, value), value)
            for kind, value in product(WRONG_KINDS, [(0, 1), (3, 0, 1, 2), ((0, 1), (2,)), None]):
                self.assertIs(heights_hold(wishes, kind, value), False)
                self.assertIs(move_ring_holds(wishes, kind, value), False)


class MoveRingHolds(Tests):
    def test_turned_and_turned_about(self):
        told = set()
        for wishes, kind, ways in all_ways():
            if due_heights(ways) is None:
                ring = move_ring(wishes, kind)
                for at in range(len(ring)):
                    self.assertIs(move_ring_holds(wishes, kind, ring[at:] + ring[:at]), True)
                for value in (ring[::-1], ring[:-1], ring * 2, list(ring), tuple(map(list, ring)), ring[0], ring[:1]):
                    told.add(is_ring(ways, value))
                    self.assertIs(move_ring_holds(wishes, kind, value), is_ring(ways, value), value)
        self.assertEqual(told, {True, False})

    def test_rings_of_wrong_kinds(self):
        told = set()
        for wishes, kind, ways in all_ways():
            if due_heights(ways) is None:
                ring = move_ring(wishes, kind)
                told.add(kind)
                for wrong in WRONG_KINDS:
                    self.assertIs(move_ring_holds(wishes, wrong, ring), False)
            else:
                for wrong in WRONG_KINDS:
                    self.assertIs(heights_hold(wishes, wrong, due_heights(ways)), False)
        self.assertEqual(told, {"free", "welcome"})

    def test_rows_of_lots(self):
        told = set()
        for wishes, kind, ways in all_ways()[::2]:
            lots = due_lots(wishes.collection)
            for value in list(permutations(lots, 2))[:200] + list(permutations(lots, 3))[:200]:
                told.add((kind, is_ring(ways, value)))
                self.assertIs(move_ring_holds(wishes, kind, value), is_ring(ways, value), value)
        self.assertEqual(len(told), 5)

    def test_changed_rings(self):
        told = set()
        for wishes, kind, ways in all_ways()[::2]:
            if due_heights(ways) is None:
                for value in altered(move_ring(wishes, kind)):
                    told.add(is_ring(ways, value))
                    self.assertIs(move_ring_holds(wishes, kind, value), is_ring(ways, value), value)
        self.assertIn(False, told)

    def test_bools(self):
        self.assertIs(move_ring_holds(value=((0, 1), (2,)), kind="free", wishes=CHASE), True)
        for value in (((False, 1), (2,)), ((0, True), (2,)), [(0, 1), (2,)], ([0, 1], (2,)), ((0, 1),), ((2,), (2,)), (),
                      ((0, 1), (2,), (0, 1), (2,)), ((1, 0), (2,)), ((0, 1), (3,)), (0, 1), ((0, 1), 2), ((0, 1), (0, 1))):
            self.assertIs(move_ring_holds(CHASE, "free", value), False, value)
        self.assertIs(move_ring_holds(CHASE, "welcome", ((0, 1), (2,))), False)

    def test_values_of_any_kind(self):
        for wishes in (CHASE, RUNNER, odd_circle(3)):
            for kind in KINDS:
                for value in odd_values() + [(one, one) for one in odd_values()] + [((0, 1), one) for one in odd_values()]:
                    self.assertIs(move_ring_holds(wishes, kind, value), is_ring(due_ways(wishes, kind), value), value)


def mutual(n, seed, top):
    """Numbers of chance that are the same both ways."""
    chance = random.Random(seed)
    told = {(a, b): chance.randint(-top, top) for a in range(n) for b in range(a, n)}
    return tuple(tuple(told[min(a, b), max(a, b)] for b in range(n)) for a in range(n))


class Worth(Tests):
    def test_small(self):
        self.same(worth(HOUSE, ((7, -5), (-5, 9)), (2,)), -5)
        self.same(worth(lot=(0, 1), numbers=((7, -5), (-5, 9)), collection=HOUSE), 0)
        self.same(worth(ONE, ((99,),), (0,)), 0)
        trio = Collection(3, [(0,), (1,), (2,), (0, 1), (0, 1, 2)])
        numbers = ((1, 10, -99), (10, 1, 4), (-99, 4, 1))
        self.same([worth(trio, numbers, lot) for lot in ((0, 1, 2), (2, 3), (4,))], [0, 10, -85])

    def test_all_lots(self):
        for seed in range(80):
            collection = random_collection(seed)
            numbers = mutual(collection.n, seed, 99)
            for lot in due_lots(collection):
                groups = [collection.groups[place] for place in lot]
                pairs = {frozenset((a, b)) for group in groups for a in group for b in group if a != b}
                self.same(worth(collection, numbers, lot), sum(numbers[min(pair)][max(pair)] for pair in pairs))

    def test_free_moves_end_and_lead_to_more(self):
        many = 0
        for seed in range(120):
            collection = random_collection(seed)
            numbers = mutual(collection.n, seed, random.Random(seed).choice([1, 3, 99]))
            wishes = by_numbers(collection, numbers)
            self.assertIsNotNone(due_heights(due_ways(wishes, "free")))
            heights(wishes, "free")
            for lot in due_lots(collection):
                for _, other in moves(wishes, lot, "free"):
                    many += 1
                    self.assertGreater(worth(collection, numbers, other), worth(collection, numbers, lot))
        self.assertGreater(many, 100)

    def test_wrong_numbers_ahead_of_wrong_lots(self):
        right = ((5, 3, -2), (3, 0, 99), (-2, 99, 1))
        self.same(worth(TRIANGLE, right, (2, 3)), 3)
        for numbers in odd_values() + altered(right):
            due = (shaped(numbers, [[int]]) and len(numbers) == 3 and all(len(row) == 3 for row in numbers)
                   and all(-99 <= one <= 99 for row in numbers for one in row)
                   and all(numbers[a][b] == numbers[b][a] for a in range(3) for b in range(3)))
            if due:
                self.same(worth(TRIANGLE, numbers, (2, 3)), numbers[0][1])
            for lot in ((2, 3), None, (0,), numbers):
                if not due:
                    self.refuses(InvalidValues, numbers, worth, TRIANGLE, numbers, lot)

    def test_not_the_same_both_ways(self):
        for a, b in product(range(3), range(3)):
            rows = [[0, 3, -2], [3, 0, 99], [-2, 99, 0]]
            rows[a][b] += -1
            numbers = tuple(map(tuple, rows))
            if a == b:
                self.same(worth(TRIANGLE, numbers, (0, 1, 2)), 0)
            else:
                self.refuses(InvalidValues, numbers, worth, TRIANGLE, numbers, (0, 1, 2))
        for number in (100, -100):
            numbers = ((0, number), (number, 0))
            self.refuses(InvalidValues, numbers, worth, HOUSE, numbers, (2,))

    def test_wrong_lots(self):
        for lot in odd_values() + [(2, 1, 0), (4, 0), [0, 1, 2], (False, 4), (0, True, 2), (0,), (3,), (6,)]:
            self.refuses(InvalidLot, lot, worth, TRIANGLE, ((0, 0, 0),) * 3, lot)
        self.refuses(InvalidLot, (), worth, lot=(), collection=HOUSE, numbers=((0, 0), (0, 0)))


if __name__ == "__main__":
    unittest.main()
