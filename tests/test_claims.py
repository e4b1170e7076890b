"""Point [21], and promise (15)."""

import functools
import unittest

from anyvalues import (
    HOUSE, Tests, altered, by_lists, due_calm, due_lots, exact, full_collection, odd_circle, odd_values, of_pairs,
    random_collection, random_pairs, random_two_sides, random_wishes, shaped, strict_wishes)
from calmgroups.claims import answer_of, is_claim, is_question, question_of
from calmgroups.errors import InvalidClaim, InvalidQuestion
from calmgroups.groups import Collection
from calmgroups.wishes import Wishes
from test_calm import due_leaving
from test_divisions import due_odd, is_due as is_division
from test_lapping import is_single
from test_moves import KINDS, due_heights, due_ways
from test_pairs import due_sides
from test_trees import TREES, all_hang

ONE = Collection(1, [(0,)])
TRIANGLE = of_pairs(3, [(0, 1), (1, 2), (0, 2)])
GREATER = Collection(3, [(0,), (1,), (2,), (0, 1), (0, 1, 2)])
# Strict wishes of pairs, wishes of pairs that are not strict, strict ones not of pairs, and neither.
CIRCLE = odd_circle(3)
LEVEL = Wishes(TRIANGLE, ((0, 1, 2), (0, 1, 2), (0, 1, 1)))
TALL = strict_wishes(GREATER, 3)
FLAT = Wishes(GREATER, ((0, 0, 0), (0, 0, 0), (0, 0)))
THINGS = [CIRCLE, LEVEL, TALL, FLAT, Wishes(ONE, ((5,),)), TRIANGLE, GREATER, ONE, HOUSE]
WORDS = ["some calm", "none calm", "some firm", "none firm", "lot", "calm", "left", "count", "end", "ring", "odd",
         "single", "rings", "tree", "no tree", "sides", "odd ring", "", "Count", "strict", "free"]


def some_things():
    """Wishes and collections of 1 to 6 members, of pairs and not, strict and not, of two sides and not."""
    found = THINGS + [odd_circle(4), odd_circle(5), by_lists([1, 2], [2, 0], [0, 1], [4], [3], [])]
    for seed in range(30):
        found += [random_wishes(seed), strict_wishes(random_collection(seed), seed), random_collection(seed)]
        found += [strict_wishes(random_pairs(seed), seed), random_pairs(seed), random_two_sides(seed)]
    for seed in range(3):
        found += [full_collection(seed), strict_wishes(full_collection(seed), seed)]
    return found


def of_pairs_due(collection):
    return all(len(group) < 3 for group in collection.groups)


def has_divisions(wishes):
    """Whether these are strict wishes of pairs."""
    return of_pairs_due(wishes.collection) and all(len(set(row)) == len(row) for row in wishes.ranks)


def is_question_due(thing, value):
    """Whether a value of any kind is a question for the thing, by the table."""
    if isinstance(thing, Collection):
        words = ["single", "tree"] + ["sides"] * of_pairs_due(thing)
        return exact(value) in [exact((word,)) for word in words]
    due = [("some calm",), ("some firm",), ("count",)] + [("end", kind) for kind in KINDS]
    due += [("odd",)] * has_divisions(thing) + [("lot", lot) for lot in due_lots(thing.collection)]
    return exact(value) in [exact(one) for one in due]


def is_claim_due(thing, value):
    """Whether a value of any kind is a claim for the thing, by the table."""
    if isinstance(thing, Collection):
        words = ["single", "rings", "tree", "no tree"] + ["sides", "odd ring"] * of_pairs_due(thing)
        return exact(value) in [exact((word,)) for word in words]
    if shaped(value, (str, int)) and value[0] == "count":
        return value[1] >= 0
    if shaped(value, (str, [[int]])) and value[0] == "odd":
        return has_divisions(thing) and all(0 <= one < thing.collection.n for ring in value[1] for one in ring)
    due = [(word,) for word in ("some calm", "none calm", "some firm", "none firm")]
    due += [(word, kind) for word in ("end", "ring") for kind in KINDS]
    due += [(word, lot) for word in ("calm", "left") for lot in due_lots(thing.collection)]
    return exact(value) in [exact(one) for one in due]


def questions(thing):
    """All questions for the thing."""
    if isinstance(thing, Collection):
        return [("single",), ("tree",)] + [("sides",)] * of_pairs_due(thing)
    found = [("some calm",), ("some firm",), ("count",)] + [("end", kind) for kind in KINDS]
    return found + [("odd",)] * has_divisions(thing) + [("lot", lot) for lot in due_lots(thing.collection)]


def claims(thing, question):
    """The claims that may answer the question, or some of them."""
    word, rest = question[0], question[1:]
    if word == "count":
        return [("count", many) for many in range(len(due_lots(thing.collection)) + 2)]
    if word == "odd":
        return [("odd", rings) for rings in ((), ((0, 1, 2),), ((0, 2, 1),), ((0,),), ((),), ((1, 0), (0, 0, 0)))
                if all(one < thing.collection.n for ring in rings for one in ring)]
    pairs = {"some calm": "none calm", "some firm": "none firm", "end": "ring", "single": "rings", "tree": "no tree",
             "sides": "odd ring"}
    both = ("calm", "left") if word == "lot" else (word, pairs[word])
    return [(one,) + rest for one in both]


def due_answer(thing, question):
    """The true claim, by the test's own reckoning."""
    word = question[0]
    if word == "single":
        return ("single",) if is_single(thing) else ("rings",)
    if word == "tree":
        return ("tree",) if any(all_hang(thing, tree) for tree in TREES[thing.n]) else ("no tree",)
    if word == "sides":
        return ("odd ring",) if due_sides(thing) is None else ("sides",)
    calm = due_calm(thing)
    if word == "some calm":
        return ("some calm",) if calm else ("none calm",)
    if word == "some firm":
        firm = [lot for lot in due_lots(thing.collection) if not due_leaving(thing, lot, True)]
        return ("some firm",) if firm else ("none firm",)
    if word == "lot":
        return ("calm" if question[1] in calm else "left", question[1])
    if word == "count":
        return ("count", len(calm))
    if word == "odd":
        return ("odd", due_odd(first_division(thing)))
    return ("ring" if due_heights(due_ways(thing, question[1])) is None else "end", question[1])


def first_division(wishes):
    """The first division of all."""
    def longer(row):
        if len(row) == wishes.collection.n:
            return row if is_division(wishes, row) else None
        for member in range(wishes.collection.n):
            if member not in row and tuple(sorted({len(row), member})) in wishes.collection.groups:
                found = longer(row + (member,))
                if found is not None:
                    return found
        return None
    return longer(())


@functools.cache
def all_answers():
    """Each of some things with each question and its true claim, reckoned once for all tests."""
    return [(thing, question, due_answer(thing, question)) for thing in some_things() for question in questions(thing)]


def values():
    """Questions, claims and others of any kind, right and wrong ones."""
    found = odd_values() + [(), ((),), "count", ["count"], ("count", None), (("count",),), [("count",)]]
    for word in WORDS:
        found += [word, (word,), [word], (word, word), (word, None), (word, ()), (word, 0), (word, -1), (word, True)]
        found += [(word, kind) for kind in KINDS + ("none", "")] + [[word, "free"], (word, "free", "free"), (word, ["free"])]
        for lot in ((0,), (2,), (0, 1), (0, 1, 2), (2, 3), (0, 4), (4,), (1, 5), (3, 2)):
            found += [(word, lot), (word, list(lot)), [word, lot], (word, lot, lot), (word,) + lot]
        found += [(word, rings) for rings in (((0, 1, 2),), ((0,), (0,)), ((),), ((3,),), ((-1,),), ((True, 0),), ([0, 1, 2],),
                                              [(0, 1, 2)], ((0, 1, None),), (((0,),),), ((0, 1, 2), 0), ((5, 4, 3, 2, 1, 0),))]
        found += [(word, (False, 1)), (word, (0, True, 2)), (word, (False,)), (word, (True,)), (True, word), (word, 10 ** 11)]
        found += [(word, many) for many in (1, 2, 3, 99)] + [(word, one) for one in odd_values()]
    for good in (("lot", (0, 4)), ("end", "free"), ("count", 3), ("odd", ((0, 1, 2),)), ("none calm",), ("tree",)):
        found += altered(good)
    return found


class IsQuestion(Tests):
    def test_table(self):
        self.assertIs(is_question(CIRCLE, ("odd",)), True)
        self.assertIs(is_question(LEVEL, ("odd",)), False)
        self.assertIs(is_question(TALL, ("odd",)), False)
        self.assertIs(is_question(TRIANGLE, ("sides",)), True)
        self.assertIs(is_question(GREATER, ("sides",)), False)
        self.assertIs(is_question(value=("end", "agreed"), thing=FLAT), True)
        self.assertIs(is_question(TALL, ("lot", (4,))), True)
        self.assertIs(is_question(CIRCLE, ("lot", (4,))), False)

    def test_not_wishes(self):
        for wishes in (CIRCLE, LEVEL, TALL, FLAT):
            for word in ("single", "tree", "sides"):
                self.assertIs(is_question(wishes, (word,)), False)
            for word in ("single", "rings", "tree", "no tree", "sides", "odd ring"):
                self.assertIs(is_claim(wishes, (word,)), False)

    def test_all_questions(self):
        for thing in some_things():
            for question in questions(thing):
                self.assertIs(is_question(thing, question), True, question)

    def test_values_of_any_kind(self):
        for thing in THINGS:
            told = set()
            for value in values():
                told.add(is_question_due(thing, value))
                self.assertIs(is_question(thing, value), is_question_due(thing, value), value)
            self.assertEqual(told, {True, False})

    def test_changed_questions(self):
        for thing in THINGS:
            for question in questions(thing):
                for value in altered(question) + [list(question), question + (None,), question + (0,), question[:-1]]:
                    self.assertIs(is_question(thing, value), is_question_due(thing, value), value)


class IsClaim(Tests):
    def test_table(self):
        self.assertIs(is_claim(value=("count", 10 ** 11), thing=FLAT), True)
        self.assertIs(is_claim(CIRCLE, ("odd", ())), True)
        self.assertIs(is_claim(CIRCLE, ("odd", ((2, 2, 2, 2), (), (0,)))), True)
        self.assertIs(is_claim(CIRCLE, ("odd", ((3,),))), False)
        self.assertIs(is_claim(LEVEL, ("odd", ())), False)
        self.assertIs(is_claim(TALL, ("odd", ())), False)
        self.assertIs(is_claim(CIRCLE, ("lot", (0, 1, 2))), False)
        self.assertIs(is_claim(CIRCLE, ("count",)), False)
        self.assertIs(is_claim(CIRCLE, ("odd",)), False)
        self.assertIs(is_claim(CIRCLE, ("count", True)), False)
        self.assertIs(is_claim(CIRCLE, ("count", -1)), False)

    def test_all_claims(self):
        for thing in some_things():
            for question in questions(thing):
                for claim in claims(thing, question):
                    self.assertIs(is_claim(thing, claim), True, claim)
                    self.same(question_of(thing, claim), question)

    def test_values_of_any_kind(self):
        for thing in THINGS:
            told = set()
            for value in values():
                told.add(is_claim_due(thing, value))
                self.assertIs(is_claim(thing, value), is_claim_due(thing, value), value)
            self.assertEqual(told, {True, False})

    def test_changed_claims(self):
        for thing in THINGS:
            for question in questions(thing):
                for claim in claims(thing, question)[:3]:
                    for value in altered(claim) + [list(claim), claim + (None,), claim + (0,), claim[:-1]]:
                        self.assertIs(is_claim(thing, value), is_claim_due(thing, value), value)


class Answers(Tests):
    def test_the_true_claim(self):
        told = set()
        for thing, question, due in all_answers():
            self.same(answer_of(thing, question), due)
            self.assertIs(is_claim(thing, due), True)
            told.add((due[0], due[1]) if due[0] == "count" else due[0])
        for word in ("some calm", "none calm", "some firm", "none firm", "calm", "left", "end", "ring", "odd", "single",
                     "rings", "tree", "no tree", "sides", "odd ring", ("count", 0), ("count", 1), ("count", 2)):
            self.assertIn(word, told)

    def test_small(self):
        self.same(answer_of(question=("odd",), thing=CIRCLE), ("odd", ((0, 1, 2),)))
        self.same(answer_of(CIRCLE, ("count",)), ("count", 0))
        self.same(answer_of(CIRCLE, ("lot", (0, 1, 2))), ("left", (0, 1, 2)))
        self.same(answer_of(HOUSE, ("sides",)), ("sides",))

    def test_question_of_leads_back(self):
        for thing, question, due in all_answers():
            self.same(question_of(thing, due), question)
        self.same(question_of(claim=("odd", ((1,),)), thing=CIRCLE), ("odd",))
        self.same(question_of(CIRCLE, ("count", 77)), ("count",))
        self.same(question_of(FLAT, ("left", (4,))), ("lot", (4,)))

    def test_calls_again(self):
        for thing in THINGS:
            for question in questions(thing):
                self.same(answer_of(thing, question), answer_of(thing, question))

    def test_invalid_questions(self):
        for thing in THINGS:
            for value in values():
                if not is_question_due(thing, value):
                    self.refuses(InvalidQuestion, value, answer_of, thing, value)
        self.refuses(InvalidQuestion, None, answer_of, question=None, thing=HOUSE)

    def test_invalid_claims(self):
        for thing in THINGS:
            for value in values():
                if not is_claim_due(thing, value):
                    self.refuses(InvalidClaim, value, question_of, thing, value)
        self.refuses(InvalidClaim, None, question_of, claim=None, thing=HOUSE)


if __name__ == "__main__":
    unittest.main()
