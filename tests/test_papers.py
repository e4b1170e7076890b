"""Point [22], and promise (16)."""

import random
import unittest
from itertools import combinations, permutations, product

from anyvalues import (
    HOUSE, Tests, altered, does_leave, due_calm, due_lots, exact, likings, odd_circle, odd_values, of_pairs, own_of,
    shaped, strict_wishes)
from calmgroups.claims import answer_of
from calmgroups.errors import InvalidQuestion
from calmgroups.groups import Collection
from calmgroups.papers import claim_holds, paper_of
from calmgroups.wishes import Wishes
from test_calm import due_leaving
from test_claims import (
    CIRCLE, FLAT, GREATER, LEVEL, ONE, TALL, THINGS, TRIANGLE, all_answers, claims, is_claim_due, is_question_due,
    questions, values)
from test_divisions import due_odd, is_due as is_division
from test_lapping import is_due as is_group_ring
from test_moves import are_heights, due_heights, due_ways, is_ring
from test_pairs import is_due as is_odd_ring
from test_trees import TREES, all_hang, is_due as is_tree, is_heaviest, weight

SQUARE = odd_circle(4)
KEPT = {}


def ways_of(wishes, kind):
    """The ways of the wishes, reckoned once for each."""
    if (id(wishes), kind) not in KEPT:
        KEPT[id(wishes), kind] = (wishes, due_ways(wishes, kind))
    return KEPT[id(wishes), kind][1]


def some_answers(many):
    """Of all answers so many, of all sizes, for each word of the true claim."""
    by_word = {}
    for told in all_answers():
        by_word.setdefault(told[2][0], []).append(told)
    return [told for row in by_word.values() for told in random.Random(many).sample(row, min(many, len(row)))]


def is_calm_paper(wishes, lot, paper):
    """Whether a value of any kind has for each place a member that does not like it better than its own."""
    groups, told, own = wishes.collection.groups, likings(wishes), own_of(wishes, lot)
    if not shaped(paper, [int]) or len(paper) != len(groups):
        return False
    return all(member in group and told[member][place] >= own[member]
               for place, (member, group) in enumerate(zip(paper, groups)))


def is_left_paper(wishes, lot, paper, softly=False):
    """Whether a value of any kind is the place of a group that leaves the lot."""
    return type(paper) is int and paper in due_leaving(wishes, lot, softly)


def is_single_paper(collection, paper):
    """Whether a value of any kind has all groups of two or more, each of which joins what was apart."""
    many = [place for place, group in enumerate(collection.groups) if len(group) > 1]
    if not shaped(paper, [int]) or sorted(paper) != many:
        return False
    parts = [{member} for member in range(collection.n)]
    for place in paper:
        group = set(collection.groups[place])
        if any(len(part & group) > 1 for part in parts):
            return False
        parts = [set().union(*[part for part in parts if part & group])] + [part for part in parts if not part & group]
    return True


def is_paper_for_collection(collection, word, paper):
    """Whether a value of any kind is a paper for the claim with this word."""
    if word == "single":
        return is_single_paper(collection, paper)
    if word == "rings":
        return is_group_ring(collection, paper)
    if word == "tree":
        return is_tree(paper, collection.n) and all_hang(collection, paper)
    if word == "no tree":
        return (is_tree(paper, collection.n) and is_heaviest(collection, paper) and
                sum(weight(collection, *pair) for pair in paper) < sum(len(group) - 1 for group in collection.groups))
    if word == "sides":
        return (shaped(paper, [int]) and len(paper) == collection.n and set(paper) <= {0, 1} and
                all(paper[group[0]] != paper[group[1]] for group in collection.groups if len(group) == 2))
    return is_odd_ring(collection, paper)


def is_paper(thing, claim, paper):
    """Whether a claim of any kind is one for the thing and a paper of any kind one for it."""
    if not is_claim_due(thing, claim):
        return False
    if isinstance(thing, Collection):
        return is_paper_for_collection(thing, claim[0], paper)
    word, lots = claim[0], due_lots(thing.collection)
    if word in ("some calm", "some firm"):
        return shaped(paper, [int]) and paper in lots and not due_leaving(thing, paper, word == "some firm")
    if word == "calm":
        return is_calm_paper(thing, claim[1], paper)
    if word == "left":
        return is_left_paper(thing, claim[1], paper)
    if word == "end":
        return are_heights(ways_of(thing, claim[1]), paper)
    if word == "ring":
        return is_ring(ways_of(thing, claim[1]), paper)
    if word == "odd":
        return is_division(thing, paper) and due_odd(paper) == claim[1]
    if type(paper) is not tuple or len(paper) != len(lots):
        return False
    if word == "count":
        return (all(is_calm_paper(thing, lot, part) or is_left_paper(thing, lot, part) for lot, part in zip(lots, paper))
                and sum(type(part) is tuple for part in paper) == claim[1])
    return all(is_left_paper(thing, lot, part, word == "none firm") for lot, part in zip(lots, paper))


def calm_paper(wishes, lot, chance):
    """A paper of chance for a calm lot."""
    told, own = likings(wishes), own_of(wishes, lot)
    return tuple(chance.choice([member for member in group if told[member][place] >= own[member]])
                 for place, group in enumerate(wishes.collection.groups))


def lot_paper(wishes, lot, chance):
    """A paper of chance for what is true of the lot."""
    leaving = due_leaving(wishes, lot, False)
    return chance.choice(leaving) if leaving else calm_paper(wishes, lot, chance)


def own_papers(thing, claim, chance):
    """Papers of the test's own making for a true claim."""
    word = claim[0]
    if isinstance(thing, Collection):
        return own_papers_of_collection(thing, word, chance)
    lots = due_lots(thing.collection)
    if word == "some calm":
        return due_calm(thing)
    if word == "some firm":
        return [lot for lot in lots if not due_leaving(thing, lot, True)]
    if word in ("none calm", "none firm"):
        return [tuple(chance.choice(due_leaving(thing, lot, word == "none firm")) for lot in lots)]
    if word in ("calm", "left"):
        return [lot_paper(thing, claim[1], chance)]
    if word == "count":
        return [tuple(lot_paper(thing, lot, chance) for lot in lots)]
    if word == "end":
        due = due_heights(ways_of(thing, claim[1]))
        return [due, tuple(2 * one for one in due), tuple(one + 5 for one in due)]
    if word == "ring":
        ring = paper_of(thing, ("end", claim[1]))
        return [ring[at:] + ring[:at] for at in range(len(ring))]
    rows = permutations(range(thing.collection.n)) if thing.collection.n < 6 else [paper_of(thing, ("odd",))]
    return [row for row in rows if is_division(thing, row)]


def own_papers_of_collection(collection, word, chance):
    if word == "single":
        many = [place for place, group in enumerate(collection.groups) if len(group) > 1]
        return [tuple(many), tuple(many[::-1]), tuple(chance.sample(many, len(many)))]
    if word == "rings":
        places, members = paper_of(collection, ("single",))
        return [(places[at:] + places[:at], members[at:] + members[:at]) for at in range(len(places))]
    if word in ("tree", "no tree"):
        return [tree for tree in TREES[collection.n] if is_paper_for_collection(collection, word, tree)]
    if word == "sides":
        row = paper_of(collection, ("sides",))
        return [row, tuple(1 - side for side in row)]
    ring = paper_of(collection, ("sides",))
    return [ring[at:] + ring[:at] for at in range(len(ring))] + [ring[::-1]]


class PaperOf(Tests):
    def test_each_question(self):
        told = set()
        for thing, question, claim in all_answers():
            paper = paper_of(thing, question)
            self.assertTrue(is_paper(thing, claim, paper), (claim, paper))
            self.assertIs(claim_holds(thing, claim, paper), True)
            self.assertIs(claim_holds(paper=paper, claim=claim, thing=thing), True)
            told.add(claim[0])
        self.assertEqual(len(told), 16)

    def test_small(self):
        self.same(paper_of(question=("some calm",), thing=Wishes(HOUSE, ((1, 0), (1, 0)))), (2,))
        self.same(paper_of(Wishes(HOUSE, ((1, 0), (1, 0))), ("lot", (2,)))[2] in (0, 1), True)
        self.same(paper_of(Wishes(HOUSE, ((1, 0), (1, 0))), ("lot", (0, 1))), 2)
        self.same(paper_of(Wishes(HOUSE, ((1, 0), (1, 0))), ("lot", (2,)))[:2], (0, 1))
        self.same(paper_of(HOUSE, ("single",)), (2,))
        self.same(paper_of(HOUSE, ("tree",)), ((0, 1),))

    def test_calls_again(self):
        for thing in THINGS:
            for question in questions(thing):
                if isinstance(thing, Wishes):
                    again = Wishes(Collection(thing.collection.n, list(thing.collection.groups)), thing.ranks)
                else:
                    again = Collection(thing.n, list(thing.groups))
                self.same(paper_of(thing, question), paper_of(again, question))

    def test_invalid_questions(self):
        for thing in THINGS:
            for value in values():
                if not is_question_due(thing, value):
                    self.refuses(InvalidQuestion, value, paper_of, thing, value)
        self.refuses(InvalidQuestion, None, paper_of, question=None, thing=HOUSE)


class ClaimHolds(Tests):
    def test_papers_of_the_tests_own_making(self):
        chance = random.Random(1)
        others = set()
        for thing, question, claim in all_answers():
            for paper in own_papers(thing, claim, chance):
                self.assertTrue(is_paper(thing, claim, paper), (claim, paper))
                self.assertIs(claim_holds(thing, claim, paper), True, (claim, paper))
                if paper != paper_of(thing, question):
                    others.add(claim[0])
        self.assertEqual(len(others), 16, others)

    def test_rings_of_four_in_a_division(self):
        for paper in ((1, 2, 3, 0), (1, 0, 3, 2), (3, 2, 1, 0)):
            self.assertIs(claim_holds(SQUARE, ("odd", ()), paper), True)
            self.assertIs(claim_holds(SQUARE, ("odd", ((0, 1, 2, 3),)), paper), False)

    def test_false_claims_have_no_paper(self):
        chance = random.Random(2)
        for thing, question, true in some_answers(12):
            papers = own_papers(thing, true, chance)[:3]
            changed = altered(papers[0])
            papers += chance.sample(changed, min(len(changed), 80))
            for claim in claims(thing, question):
                if claim != true:
                    for paper in papers:
                        self.assertIs(claim_holds(thing, claim, paper), False, (claim, paper))

    def test_no_value_shows_what_is_false(self):
        # Of small things all rows of small numbers, and their rows, are tried for each claim.
        rows = [row for length in range(5) for row in product(range(4), repeat=length)]
        deep = [(one, other) for one, other in product(rows[:30], rows[:30])] + [((0, 1), (1, 2)), ((0, 1), (0, 2))]
        for thing in (CIRCLE, HOUSE, Wishes(HOUSE, ((1, 0), (0, 1))), Wishes(HOUSE, ((1, 1), (0, 1))), TRIANGLE):
            for question in questions(thing):
                true = answer_of(thing, question)
                for claim in claims(thing, question):
                    held = [paper for paper in rows + deep + list(range(8)) if claim_holds(thing, claim, paper)]
                    if claim != true:
                        self.assertEqual(held, [])

    def test_changed_papers(self):
        told = set()
        for thing, question, claim in some_answers(12):
            changed = altered(paper_of(thing, question))
            for paper in random.Random(len(changed)).sample(changed, min(len(changed), 150)):
                due = is_paper(thing, claim, paper)
                told.add((claim[0], due))
                self.assertIs(claim_holds(thing, claim, paper), due, (claim, paper))
        self.assertEqual(len([word for word, due in told if not due]), 16)
        self.assertGreater(len([word for word, due in told if due]), 8)

    def test_changed_claims(self):
        for thing, question, claim in some_answers(8):
            paper = paper_of(thing, question)
            for value in altered(claim)[:100] + [list(claim), claim + (None,), claim[:-1]]:
                self.assertIs(claim_holds(thing, value, paper), is_paper(thing, value, paper), value)

    def test_papers_of_other_claims(self):
        for thing in THINGS:
            told = [answer_of(thing, question) for question in questions(thing)]
            papers = [paper_of(thing, question) for question in questions(thing)]
            for claim, paper in product(told, papers):
                self.assertIs(claim_holds(thing, claim, paper), is_paper(thing, claim, paper), (claim, paper))
        for one, other in product(THINGS, THINGS):
            for question in questions(other):
                claim, paper = answer_of(other, question), paper_of(other, question)
                self.assertIs(claim_holds(one, claim, paper), is_paper(one, claim, paper), (claim, paper))

    def test_papers_of_any_kind(self):
        for thing in THINGS:
            for question in questions(thing):
                for claim in claims(thing, question):
                    for paper in odd_values():
                        self.assertIs(claim_holds(thing, claim, paper), is_paper(thing, claim, paper), (claim, paper))

    def test_claims_of_any_kind(self):
        for thing in THINGS:
            papers = [paper_of(thing, question) for question in questions(thing)][:6] + [None, (), 0]
            for claim in values():
                if not is_claim_due(thing, claim):
                    for paper in papers:
                        self.assertIs(claim_holds(thing, claim, paper), False)

    def test_bools(self):
        wishes = Wishes(HOUSE, ((1, 0), (0, 1)))
        for claim, right, wrong in (
                (("some calm",), (0, 1), [(False, 1), (0, True), [0, 1], (1, 0), (2,), 0]),
                (("calm", (0, 1)), (0, 1, 1), [(0, 1, True), (False, 1, 1), [0, 1, 1], (0, 1, 0), (0, 1), (0, 1, 2), (0, 1, -1)]),
                (("left", (2,)), 1, [True, 0, 2, 3, -2, (1,), None, "1"]),
                (("count", 1), ((0, 1, 1), 1), [((0, 1, 1), True), ([0, 1, 1], 1), ((0, 1, 1),), (1, (0, 1, 1)), ((0, 1, 1), 0),
                                                ((0, 1, 1), 1, 1), (1, 1), ((0, 1, 1), (0, 1, 1))]),
                (("end", "welcome"), (0, 1), [(0, True), (False, 1), [0, 1], (1, 0)]),
                (("odd", ()), (0, 1), [(0, True), (False, 1), [0, 1], (1, 0)])):
            self.assertIs(claim_holds(wishes, claim, right), True, claim)
            for paper in wrong:
                self.assertIs(claim_holds(wishes, claim, paper), False, (claim, paper))
        self.assertIs(claim_holds(wishes, ("count", True), ((0, 1, 1), 1)), False)
        self.assertIs(claim_holds(wishes, ("calm", (False, 1)), (0, 1, 1)), False)
        for paper in ((False, True), (0, True), [0, 1], (0, 2), (0, 0), (0,), (0, 1, 0), (0, -1)):
            self.assertIs(claim_holds(HOUSE, ("sides",), paper), False)
        for paper in ((1, 0), (0, 1)):
            self.assertIs(claim_holds(HOUSE, ("sides",), paper), True)
        for paper in ((True,), [2], (2, 2), (0,), (), (0, 1, 2), (3,), (-1,), ((2,),)):
            self.assertIs(claim_holds(HOUSE, ("single",), paper), False)

    def test_orders_of_groups(self):
        single = of_pairs(4, [(0, 1), (2, 3), (1, 2)])
        for paper in permutations((4, 5, 6)):
            self.assertIs(claim_holds(single, ("single",), paper), True)
            self.assertIs(claim_holds(single, ("single",), paper[:2] + (0,)), False)
        ring = of_pairs(4, [(0, 1), (2, 3), (1, 2), (0, 3)])
        for many in range(5):
            for chosen in combinations((4, 5, 6, 7), many):
                for paper in permutations(chosen):
                    self.assertIs(claim_holds(ring, ("single",), paper), False)
        for paper in ((3, 4), (4, 3), (3,), (4,)):
            self.assertIs(claim_holds(GREATER, ("single",), paper), False)


class Truth(Tests):
    def test_one_of_the_claims_has_papers(self):
        for thing, question, true in all_answers()[::4]:
            paper = paper_of(thing, question)
            held = [claim for claim in claims(thing, question) + [true] if claim_holds(thing, claim, paper)]
            self.assertEqual(set(map(str, held)), {str(true)})

    def test_wishes_do_not_change(self):
        for thing in (CIRCLE, LEVEL, TALL, FLAT):
            before = exact(thing.ranks)
            for question in questions(thing):
                claim_holds(thing, answer_of(thing, question), paper_of(thing, question))
            self.assertEqual(exact(thing.ranks), before)

    def test_a_claim_for_other_wishes(self):
        told = set()
        for seed in range(60):
            one, other = strict_wishes(TRIANGLE, seed), strict_wishes(TRIANGLE, seed + 1)
            for question in questions(one):
                claim, paper = answer_of(one, question), paper_of(one, question)
                told.add((claim[0], is_paper(other, claim, paper)))
                self.assertIs(claim_holds(other, claim, paper), is_paper(other, claim, paper))
        self.assertTrue({("calm", True), ("calm", False), ("left", True), ("left", False), ("count", False)} <= told)

    def test_leaving_groups_are_taken_one_by_one(self):
        for lot in due_lots(CIRCLE.collection):
            for place in range(-1, 7):
                due = 0 <= place < 6 and does_leave(CIRCLE, lot, place)
                self.assertIs(claim_holds(CIRCLE, ("left", lot), place), due)
        self.assertIs(claim_holds(ONE, ("tree",), ()), True)


if __name__ == "__main__":
    unittest.main()
