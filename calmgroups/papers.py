"""Papers from which it can be seen that a claim is true."""

from calmgroups.calm import calm_lots, firm_lots, first_going, goes, goes_softly, own_ranks
from calmgroups.checks import are_unlike, is_number_below
from calmgroups.claims import answer_of, is_claim
from calmgroups.divisions import division, division_holds, odd_rings_of
from calmgroups.joins import joined, unjoined
from calmgroups.lapping import group_ring, group_ring_holds
from calmgroups.lots import is_lot, lots
from calmgroups.moves import heights, heights_hold, move_ring, move_ring_holds
from calmgroups.pairs import are_sides, odd_ring, odd_ring_holds, sides
from calmgroups.trees import hangs_together, heaviest_tree, is_tree, shows_no_tree, tree_of
from calmgroups.wishes import Wishes, rank_table


def paper_of(thing, question):
    """Some paper for the answer of the question."""
    claim = answer_of(thing, question)
    if isinstance(thing, Wishes):
        return _paper_for_wishes(thing, claim)
    return _paper_for_collection(thing, claim[0])


def claim_holds(thing, claim, paper):
    """Whether any claim is one for this thing and any paper one for the claim."""
    if not is_claim(thing, claim):
        return False
    if isinstance(thing, Wishes):
        return _holds_for_wishes(thing, claim, paper)
    return _holds_for_collection(thing, claim[0], paper)


def _paper_for_wishes(wishes, claim):
    """Some paper for a true claim of wishes."""
    word = claim[0]
    if word == "some calm":
        return calm_lots(wishes)[0]
    if word == "some firm":
        return firm_lots(wishes)[0]
    if word in ("none calm", "count"):
        return _for_each_lot(wishes, goes)
    if word == "none firm":
        return _for_each_lot(wishes, goes_softly)
    if word == "end":
        return heights(wishes, claim[1])
    if word == "ring":
        return move_ring(wishes, claim[1])
    if word == "odd":
        return division(wishes)
    return _for_lot(wishes.collection, rank_table(wishes), claim[1], goes)


def _paper_for_collection(collection, word):
    """Some paper for the true claim of a collection that has this word."""
    if word == "single":
        return tuple([place for place, group in enumerate(collection.groups) if len(group) > 1])
    if word == "rings":
        return group_ring(collection)
    if word == "tree":
        return tree_of(collection)
    if word == "no tree":
        return heaviest_tree(collection)
    if word == "sides":
        return sides(collection)
    return odd_ring(collection)


def _for_each_lot(wishes, way):
    """For each lot what shows that a group goes from it in this way, or that none does."""
    table = rank_table(wishes)
    return tuple([_for_lot(wishes.collection, table, lot, way) for lot in lots(wishes.collection)])


def _for_lot(collection, table, lot, way):
    """The least place of a group that goes from the lot; if none goes, for each place a member that stays."""
    going = first_going(collection, table, lot, way)
    if going is not None:
        return going
    own = own_ranks(collection, table, lot)
    return tuple([_stayer(table, own, place, group) for place, group in enumerate(collection.groups)])


def _stayer(table, own, place, group):
    """The first member of the group that does not like it better than its own one."""
    return [member for member in group if table[member][place] >= own[member]][0]


def _holds_for_wishes(wishes, claim, paper):
    """Whether any paper is one for a claim of wishes."""
    word = claim[0]
    if word == "end":
        return heights_hold(wishes, claim[1], paper)
    if word == "ring":
        return move_ring_holds(wishes, claim[1], paper)
    if word == "odd":
        return division_holds(wishes, paper) and odd_rings_of(paper) == claim[1]
    collection = wishes.collection
    table = rank_table(wishes)
    if word == "calm":
        return _shows_calm(collection, table, claim[1], paper)
    if word == "left":
        return _shows_left(collection, table, claim[1], paper, goes)
    if word == "count":
        return _shows_count(collection, table, claim[1], paper)
    way = goes_softly if word in ("some firm", "none firm") else goes
    if word in ("some calm", "some firm"):
        return is_lot(collection, paper) and first_going(collection, table, paper, way) is None
    return _shows_none(collection, table, paper, way)


def _shows_calm(collection, table, lot, paper):
    """Whether any paper has for each place a member that does not like the group better than its own one."""
    if not isinstance(paper, tuple) or len(paper) != len(collection):
        return False
    own = own_ranks(collection, table, lot)
    for place, member in enumerate(paper):
        if not is_number_below(member, collection.n) or member not in collection.groups[place]:
            return False
        if table[member][place] < own[member]:
            return False
    return True


def _shows_left(collection, table, lot, paper, way):
    """Whether any paper is the place of a group that goes from the lot in this way."""
    if not is_number_below(paper, len(collection)):
        return False
    return way(collection, table, own_ranks(collection, table, lot), paper)


def _shows_none(collection, table, paper, way):
    """Whether any paper has for each lot the place of a group that goes from it in this way."""
    told = lots(collection)
    if not isinstance(paper, tuple) or len(paper) != len(told):
        return False
    return all([_shows_left(collection, table, lot, part, way) for lot, part in zip(told, paper)])


def _shows_count(collection, table, many, paper):
    """Whether any paper shows of each lot that it is calm or left, and of so many that they are calm."""
    told = lots(collection)
    if not isinstance(paper, tuple) or len(paper) != len(told):
        return False
    for lot, part in zip(told, paper):
        if not _shows_calm(collection, table, lot, part) and not _shows_left(collection, table, lot, part, goes):
            return False
    return len([part for part in paper if isinstance(part, tuple)]) == many


def _holds_for_collection(collection, word, paper):
    """Whether any paper is one for the claim of a collection that has this word."""
    if word == "single":
        return _shows_single(collection, paper)
    if word == "rings":
        return group_ring_holds(collection, paper)
    if word == "tree":
        return is_tree(paper, collection.n) and hangs_together(collection, paper)
    if word == "no tree":
        return shows_no_tree(collection, paper)
    if word == "sides":
        return are_sides(collection, paper)
    return odd_ring_holds(collection, paper)


def _shows_single(collection, paper):
    """Whether any paper has all groups of two or more in an order in which each joins what was apart."""
    many = len([group for group in collection.groups if len(group) > 1])
    if not are_unlike(paper, len(collection)) or len(paper) != many:
        return False
    leasts = unjoined(collection.n)
    for place in paper:
        group = collection.groups[place]
        if len(group) == 1 or len(set([leasts[member] for member in group])) < len(group):
            return False
        leasts = joined(leasts, group)
    return True
