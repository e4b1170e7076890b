"""Points [13] and [14], and promises (5) and (6)."""

import random
import unittest
from itertools import combinations, product

from anyvalues import (
    HOUSE, Tests, all_groups, altered, due_calm, due_lots, likings, odd_values, random_collection, shaped,
    strict_wishes)
from calmgroups.errors import InvalidNumber, InvalidTree
from calmgroups.groups import Collection
from calmgroups.trees import hangs_together, heaviest_tree, is_tree, shows_no_tree, tree_lot, tree_of
from calmgroups.wishes import Wishes

ONE = Collection(1, [(0,)])
PAIRS = Collection(3, [(0,), (1,), (2,), (0, 1), (1, 2), (0, 2)])
PATH = Collection(4, [(0,), (1,), (2,), (3,), (0, 1), (0, 1, 2), (1, 2, 3), (2, 3), (0, 1, 2, 3)])


def reached(pairs, start):
    """The members that hang together with start by the pairs."""
    found = {start}
    for _ in range(6):
        found |= {member for pair in pairs if set(pair) & found for member in pair}
    return found


def is_due(value, n):
    """Whether a value of any kind is a tree for n members."""
    if not shaped(value, [(int, int)]) or len(value) != n - 1 or list(value) != sorted(set(value)):
        return False
    if not all(0 <= a < b < n for a, b in value):
        return False
    return reached(value, 0) == set(range(n))


def all_trees(n):
    return [value for value in combinations(list(combinations(range(n), 2)), n - 1) if is_due(value, n)]


TREES = {n: all_trees(n) for n in range(1, 7)}


def way(tree, one, other):
    """The members on the way from one to the other, both among them."""
    if one == other:
        return [one]
    for pair in tree:
        if one in pair:
            following = sum(pair) - one
            rest = [part for part in tree if part != pair]
            if other in reached(rest, following):
                return [one] + way(rest, following, other)
    raise AssertionError


def hangs(group, tree):
    """Whether no way between two members of the group leads out of it."""
    return all(set(way(tree, one, other)) <= set(group) for one, other in combinations(group, 2))


def all_hang(collection, tree):
    return all(hangs(group, tree) for group in collection.groups)


def weight(collection, one, other):
    return sum(one in group and other in group for group in collection.groups)


def is_heaviest(collection, tree):
    for one, other in combinations(range(collection.n), 2):
        members = way(tree, one, other)
        if any(weight(collection, one, other) > weight(collection, *pair) for pair in zip(members, members[1:])):
            return False
    return True


def due_lot(wishes, tree, root):
    """The lot that heads and holds make, as point [14] words it."""
    groups, told = wishes.collection.groups, likings(wishes)
    far = {member: len(way(tree, root, member)) for member in range(wishes.collection.n)}
    holds = {}
    for member in sorted(far, key=lambda member: -far[member]):
        fit = []
        for place, group in enumerate(groups):
            if member in group and min(group, key=lambda other: far[other]) == member:
                if all(told[other][place] <= told[other][holds[other]] for other in group if other != member):
                    fit.append((told[member][place], place))
        holds[member] = min(fit)[1]
    taken = []
    for member in sorted(far, key=lambda member: far[member]):
        if not any(member in groups[place] for place in taken):
            taken.append(holds[member])
    return tuple(sorted(taken))


def collection_on(tree, n, seed):
    """Groups of chance that hang together on the tree."""
    chance = random.Random(seed)
    more = [group for group in all_groups(n) if len(group) > 1 and hangs(group, tree)]
    groups = [(member,) for member in range(n)] + chance.sample(more, min(len(more), chance.randint(0, 24 - n)))
    chance.shuffle(groups)
    return Collection(n, groups)


def hanging():
    """Collections of all sizes with a tree on which they hang together."""
    found = []
    for seed in range(60):
        n = seed % 6 + 1
        tree = random.Random(seed).choice(TREES[n])
        found.append((collection_on(tree, n, seed), tree))
    return found


def collections():
    """Collections of all sizes; less groups make it likelier that there is a tree."""
    found = [random_collection(seed) for seed in range(60)]
    found += [Collection(one.n, [group for at, group in enumerate(one.groups) if len(group) == 1 or at % 3 == 0])
              for one in found]
    return found + [collection for collection, _ in hanging()]


class IsTree(Tests):
    def test_how_many(self):
        self.assertEqual([len(TREES[n]) for n in range(1, 7)], [1, 1, 3, 16, 125, 1296])

    def test_all_pairs(self):
        for n in range(1, 7):
            for value in combinations(list(combinations(range(n), 2)), n - 1):
                self.assertIs(is_tree(value, n), is_due(value, n), value)
        self.assertIs(is_tree(n=2, value=((0, 1),)), True)

    def test_one_member(self):
        self.assertIs(is_tree((), 1), True)
        for value in odd_values() + [((0, 0),), ((0, 1),), [], (0,)]:
            self.assertIs(is_tree(value, 1), shaped(value, ()), value)

    def test_what_is_none(self):
        for value in (((1, 0), (1, 2)), ((1, 2), (0, 1)), ((0, 1), (0, 1)), ((0, 1), (1, 2), (0, 2)), ((0, 1),), (),
                      ((0, 1), (0, 1), (1, 2)), [(0, 1), (1, 2)], ([0, 1], (1, 2)), ((0, 1), [1, 2]), ((False, 1), (1, 2)),
                      ((0, True), (1, 2)), ((0, 1), (True, 2)), ((0, 1), (1, 3)), ((0, 1), (-1, 2)), ((0, 1), (1, 2, 2)),
                      ((0, 1), (1,)), ((0, 1), (2, 2)), ((0, 1), 2), ((0, 1), None), ((0, 1), "12")):
            self.assertIs(is_tree(value, 3), False, value)
        for value in (((0, 1), (0, 1, 2)), ((0, 1, 2), (1, 2)), ((0,), (0, 1, 2)), ((0, 1, 2), (2,)), ((), (0, 1, 2))):
            self.assertIs(is_tree(value, 3), False, value)
            self.assertIs(shows_no_tree(PAIRS, value), False, value)
            self.refuses(InvalidTree, value, hangs_together, PAIRS, value)
        self.assertIs(is_tree(((0, 1), (2, 3), (2, 3)), 4), False)
        self.assertIs(is_tree(((0, 1), (0, 2), (1, 2)), 4), False)
        self.assertIs(is_tree(((0, 1), (0, 2), (1, 2), (3, 4)), 5), False)

    def test_changed_trees(self):
        told = set()
        for n in range(1, 7):
            for tree in random.Random(n).sample(TREES[n], min(8, len(TREES[n]))):
                for value in altered(tree):
                    for many in range(1, 7):
                        told.add(is_due(value, many))
                        self.assertIs(is_tree(value, many), is_due(value, many), value)
        self.assertEqual(told, {True, False})

    def test_any_value(self):
        for n in range(1, 7):
            for value in odd_values() + [(one,) * (n - 1) for one in odd_values()]:
                self.assertIs(is_tree(value, n), is_due(value, n), value)


class Hanging(Tests):
    def test_small(self):
        self.assertIs(hangs_together(ONE, ()), True)
        self.assertIs(hangs_together(PATH, ((0, 1), (1, 2), (2, 3))), True)
        self.assertIs(hangs_together(tree=((0, 1), (1, 3), (2, 3)), collection=PATH), False)
        self.assertIs(hangs_together(PAIRS, ((0, 1), (1, 2))), False)

    def test_all_trees(self):
        for collection in collections()[::2]:
            for tree in TREES[collection.n][::7]:
                self.assertIs(hangs_together(collection, tree), all_hang(collection, tree))
        for collection, tree in hanging():
            self.assertIs(hangs_together(collection, tree), True)

    def test_wrong_trees(self):
        for tree in odd_values() + altered(((0, 1), (1, 2))):
            if not is_due(tree, 3):
                self.refuses(InvalidTree, tree, hangs_together, PAIRS, tree)
                self.refuses(InvalidTree, tree, hangs_together, tree=tree, collection=PAIRS)


class TreeOf(Tests):
    def test_small(self):
        self.same(tree_of(ONE), ())
        self.same(tree_of(collection=HOUSE), ((0, 1),))
        self.same(tree_of(PATH), ((0, 1), (1, 2), (2, 3)))
        self.undefined("tree", tree_of, PAIRS)
        self.undefined("tree", tree_of, collection=PAIRS)

    def test_where_there_is_one(self):
        told = set()
        for collection in collections():
            due = any(all_hang(collection, tree) for tree in TREES[collection.n][::-1])
            told.add((collection.n, due))
            if due:
                tree = tree_of(collection)
                self.assertIs(is_due(tree, collection.n), True)
                self.assertTrue(all_hang(collection, tree))
                self.same(tree_of(Collection(collection.n, list(collection.groups))), tree)
            else:
                self.undefined("tree", tree_of, collection)
            self.assertIs(shows_no_tree(collection, heaviest_tree(collection)), not due)
        self.assertEqual(len(told), 10)


class Heaviest(Tests):
    def test_heaviest_tree(self):
        for collection in collections():
            tree = heaviest_tree(collection)
            self.assertIs(is_due(tree, collection.n), True)
            self.assertTrue(is_heaviest(collection, tree))
            self.same(heaviest_tree(collection=Collection(collection.n, list(collection.groups))), tree)

    def test_small(self):
        self.same(heaviest_tree(ONE), ())
        self.same(heaviest_tree(HOUSE), ((0, 1),))
        self.same(heaviest_tree(Collection(3, PAIRS.groups + ((0, 1, 2),)).without(3)), ((0, 2), (1, 2)))

    def test_shows_no_tree_of_all_trees(self):
        told = set()
        for collection in collections()[::4]:
            total = sum(len(group) - 1 for group in collection.groups)
            for tree in TREES[collection.n][::5]:
                heavy = sum(weight(collection, a, b) for a, b in tree)
                due = is_heaviest(collection, tree) and heavy < total
                told.add((is_heaviest(collection, tree), heavy < total))
                self.assertIs(shows_no_tree(collection, tree), due, tree)
        self.assertEqual(told, {(True, True), (True, False), (False, True)})
        self.assertIs(shows_no_tree(value=((0, 1), (1, 2)), collection=PAIRS), True)

    def test_shows_no_tree_of_changed_values(self):
        told = set()
        for collection in collections()[::4] + [PAIRS, PATH, ONE]:
            some = any(all_hang(collection, tree) for tree in TREES[collection.n])
            for value in altered(heaviest_tree(collection)) + odd_values():
                due = not some and is_due(value, collection.n) and is_heaviest(collection, value)
                told.add(due)
                self.assertIs(shows_no_tree(collection, value), due, value)
        self.assertEqual(told, {True, False})


class TreeLot(Tests):
    def test_small(self):
        self.same(tree_lot(Wishes(ONE, ((5,),)), (), 0), (0,))
        wishes = Wishes(HOUSE, ((1, 0), (0, 1)))
        self.same(tree_lot(wishes, ((0, 1),), 0), (0, 1))
        self.same(tree_lot(root=1, tree=((0, 1),), wishes=Wishes(HOUSE, ((1, 0), (1, 0)))), (2,))
        level = Wishes(HOUSE, ((0, 0), (0, 0)))
        self.same(tree_lot(level, ((0, 1),), 0), (0, 1))

    def test_the_least_place_of_several(self):
        collection = Collection(3, [(0, 2), (0, 1), (0,), (1,), (2,)])
        wishes = Wishes(collection, ((0, 0, 1), (0, 1), (0, 1)))
        self.same(tree_lot(wishes, ((0, 1), (0, 2)), 0), (0, 3))
        wishes = Wishes(collection, ((0, 0, 1), (0, 0), (1, 0)))
        self.same(tree_lot(wishes, ((0, 1), (0, 2)), 0), (1, 4))

    def test_each_tree_and_root(self):
        unlike = 0
        for seed, (collection, tree) in enumerate(hanging()):
            chance = random.Random(seed)
            ranks = tuple(tuple(chance.randint(0, 3) for _ in collection.places_of(k)) for k in range(collection.n))
            for wishes in (strict_wishes(collection, seed), Wishes(collection, ranks)):
                calm = due_calm(wishes)
                for root in range(collection.n):
                    lot = tree_lot(wishes, tree, root)
                    self.same(lot, due_lot(wishes, tree, root))
                    self.assertIn(lot, calm)
                    unlike += lot != tree_lot(wishes, tree, 0)
        self.assertGreater(unlike, 0)

    def test_all_trees_of_a_collection(self):
        collection = Collection(4, [(0,), (1,), (2,), (3,), (0, 1), (1, 2), (1, 2, 3), (0, 1, 2, 3)])
        trees = [tree for tree in TREES[4] if all_hang(collection, tree)]
        self.assertGreater(len(trees), 1)
        for seed, tree, root in product(range(20), trees, range(4)):
            wishes = strict_wishes(collection, seed)
            self.same(tree_lot(wishes, tree, root), due_lot(wishes, tree, root))
            self.assertIn(tree_lot(wishes, tree, root), due_lots(collection))

    def test_wrong_trees_ahead_of_wrong_roots(self):
        wishes = strict_wishes(PATH, 1)
        trees = odd_values() + altered(((0, 1), (1, 2), (2, 3))) + TREES[4]
        for tree in trees:
            if not is_due(tree, 4) or not all_hang(PATH, tree):
                for root in (0, 4, -1, True, None, ()):
                    self.refuses(InvalidTree, tree, tree_lot, wishes, tree, root)

    def test_wrong_roots(self):
        wishes = strict_wishes(PATH, 1)
        for root in odd_values() + [4, 5, 6, (0,), "0"]:
            self.refuses(InvalidNumber, root, tree_lot, wishes, ((0, 1), (1, 2), (2, 3)), root)
        self.refuses(InvalidNumber, None, tree_lot, root=None, tree=(), wishes=Wishes(ONE, ((0,),)))


if __name__ == "__main__":
    unittest.main()
