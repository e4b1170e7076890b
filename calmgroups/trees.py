"""Trees that join all members, and the groups that hang together on them."""

from calmgroups.checks import is_number_below
from calmgroups.errors import InvalidNumber, InvalidTree, Undefined
from calmgroups.groups import is_group
from calmgroups.joins import joined, unjoined
from calmgroups.wishes import rank_table


def is_tree(value, n):
    """Whether any value is an ascending tuple of n - 1 pairs (a, b), a < b, that join n members."""
    if not isinstance(value, tuple) or len(value) != n - 1:
        return False
    if not all([is_group(pair, n) and len(pair) == 2 for pair in value]):
        return False
    leasts = unjoined(n)
    for pair in value:
        leasts = joined(leasts, pair)
    return leasts == [0] * n and sorted(value) == list(value)


def hangs_together(collection, tree):
    """Whether every group of the collection hangs together on the tree."""
    if not is_tree(tree, collection.n):
        raise InvalidTree(tree)
    return all([_hangs(group, tree) for group in collection.groups])


def tree_of(collection):
    """Some tree on which every group hangs together."""
    # The groups hang together on a tree exactly if they do on each heaviest one.
    tree = heaviest_tree(collection)
    if not hangs_together(collection, tree):
        raise Undefined("tree")
    return tree


def heaviest_tree(collection):
    """Some heaviest tree: the weightiest pairs come first, if they join what is not joined yet."""
    n = collection.n
    pairs = [(a, b) for a in range(n) for b in range(a + 1, n)]
    tree = []
    leasts = unjoined(n)
    for a, b in sorted(pairs, key=lambda pair: -_weight(collection, pair[0], pair[1])):
        if leasts[a] != leasts[b]:
            tree.append((a, b))
            leasts = joined(leasts, (a, b))
    return tuple(sorted(tree))


def shows_no_tree(collection, value):
    """Whether any value is a heaviest tree that weighs too little for every group to hang together."""
    if not is_tree(value, collection.n) or not _is_heaviest(collection, value):
        return False
    due = sum([len(group) - 1 for group in collection.groups])
    return sum([_weight(collection, a, b) for a, b in value]) < due


def tree_lot(wishes, tree, root):
    """The calm lot that comes of the holds of all members on the tree, as seen from root."""
    collection = wishes.collection
    if not hangs_together(collection, tree):
        raise InvalidTree(tree)
    if not is_number_below(root, collection.n):
        raise InvalidNumber(root)
    order = [root] + [far for _, far in _steps_from(root, tree)]
    holds = _holds(wishes, order)
    taken = []
    for member in order:
        if not any([member in collection.groups[place] for place in taken]):
            taken.append(holds[member])
    return tuple(sorted(taken))


def _hangs(group, tree):
    """Whether the group hangs together on the tree."""
    return len([a for a, b in tree if a in group and b in group]) == len(group) - 1


def _weight(collection, one, other):
    """The number of groups that have both members."""
    return len([group for group in collection.groups if one in group and other in group])


def _is_heaviest(collection, tree):
    """Whether no two members weigh more than a pair of the tree on the way between them."""
    for start in range(collection.n):
        # By member the least weight of a pair on the way to it; no pair weighs more than all groups.
        least = {start: len(collection)}
        for near, far in _steps_from(start, tree):
            least[far] = min(least[near], _weight(collection, near, far))
            if _weight(collection, start, far) > least[far]:
                return False
    return True


def _steps_from(root, tree):
    """The pairs of the tree as steps (near, far) away from root, from near to far."""
    steps = []
    reached = [root]
    # Each step reaches one member more, so there is always one to step on from.
    for k in range(len(tree)):
        near = reached[k]
        for pair in tree:
            far = pair[1] if pair[0] == near else pair[0]
            if near in pair and far not in reached:
                steps.append((near, far))
                reached.append(far)
    return steps


def _holds(wishes, order):
    """The hold of each member, by member, for an order of them from near to far."""
    collection = wishes.collection
    table = rank_table(wishes)
    holds = {}
    for member in reversed(order):
        places = [place for place in table[member] if _may_hold(collection.groups[place], member, place, table, holds)]
        holds[member] = min([(table[member][place], place) for place in places])[1]
    return holds


def _may_hold(group, member, place, table, holds):
    """Whether the member heads the group and the others like it at least as much as their holds."""
    # The others are farther than the member exactly if they all have their holds already.
    others = [other for other in group if other != member]
    return all([other in holds and table[other][place] <= table[other][holds[other]] for other in others])
