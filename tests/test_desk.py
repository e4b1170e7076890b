"""Points [23] and [24], and promise (17)."""

import random
import unittest

from anyvalues import (
    HOUSE, Tests, all_groups, by_lists, due_lots, exact, full_collection, odd_circle, odd_values, of_pairs,
    random_pairs, random_two_sides, random_wishes, strict_wishes)
from calmgroups.claims import answer_of
from calmgroups.desk import Desk, same_state
from calmgroups.errors import InvalidGroup, InvalidNumber, InvalidQuestion, InvalidRanks, NothingToUndo
from calmgroups.groups import Collection
from calmgroups.papers import claim_holds, paper_of
from calmgroups.wishes import Wishes
from test_claims import due_answer, is_question_due, values
from test_papers import is_paper

ONE = Wishes(Collection(1, [(0,)]), ((5,),))
BOTH = Wishes(HOUSE, ((1, 0), (1, 0)))
WORDS = [("some calm",), ("some firm",), ("count",), ("odd",), ("end", "free"), ("end", "welcome"), ("end", "agreed")]


def shown(desk):
    """All that a desk shows, with the kinds of values."""
    told = [(question, desk.claim(question), desk.paper(question)) for question in desk.watched]
    return exact((desk.wishes.collection.groups, desk.wishes.ranks, desk.watched, desk.many, tuple(told), desk.report()))


def twin(desk_deeds, wishes):
    """A desk of these wishes that is led through these deeds."""
    desk = Desk(wishes)
    for name, arguments in desk_deeds:
        getattr(desk, name)(*arguments)
    return desk


class Record:
    """The test's own record of a desk: groups, ranks by member and group, and watched questions."""

    def __init__(self, wishes):
        self.n = wishes.collection.n
        groups = list(wishes.collection.groups)
        ranks = {}
        for member, row in enumerate(wishes.ranks):
            own = [group for group in groups if member in group]
            ranks.update({(member, group): rank for group, rank in zip(own, row)})
        self.state = (groups, ranks, [])
        self.past = []
        self.future = []
        self.kept = {}
        self.words = ()

    def wishes(self):
        groups, ranks, _ = self.state
        rows = [tuple(ranks[member, group] for group in groups if member in group) for member in range(self.n)]
        return Wishes(Collection(self.n, groups), tuple(rows))

    def do(self, name, arguments):
        before = self.state
        if name == "undo":
            self.future.append(self.state)
            self.state = self.past.pop()
        elif name == "redo":
            self.past.append(self.state)
            self.state = self.future.pop()
        else:
            self.past.append(self.state)
            self.future = []
            groups, ranks, watched = list(before[0]), dict(before[1]), list(before[2])
            getattr(self, name)(groups, ranks, watched, *arguments)
            self.state = (groups, ranks, watched)
        self.look(before[2])

    def prefer(self, groups, ranks, watched, member, place, rank):
        ranks[member, groups[place]] = rank

    def swap(self, groups, ranks, watched, member, one, other):
        first, second = (member, groups[one]), (member, groups[other])
        ranks[first], ranks[second] = ranks[second], ranks[first]

    def bring(self, groups, ranks, watched, group, given):
        groups.append(group)
        ranks.update({(member, group): rank for member, rank in zip(group, given)})

    def drop(self, groups, ranks, watched, place):
        groups.pop(place)

    def watch(self, groups, ranks, watched, question):
        if question not in watched:
            watched.append(question)

    def leave(self, groups, ranks, watched, question):
        watched.remove(question)

    def look(self, before):
        """Looks at each watched question, as point [24] says."""
        wishes, words, kept = self.wishes(), [], {}
        for question in self.state[2]:
            claim, paper = self.kept.get(question, (None, None)) if question in before else (None, None)
            if not is_question_due(wishes, question):
                word, kept[question] = "none", (None, None)
            elif claim is not None and is_paper(wishes, claim, paper):
                word, kept[question] = "kept", (claim, paper)
            else:
                kept[question] = (due_answer(wishes, question), paper_of(wishes, question))
                word = "renewed" if kept[question][0] == claim else "changed"
            words.append(word if question in before else "new")
        self.kept, self.words = kept, tuple(words)


class Led(Tests):
    def agree(self, desk, record):
        """The desk shows what the record tells."""
        self.assertEqual(desk.wishes, record.wishes())
        self.same(desk.watched, tuple(record.state[2]))
        self.same(desk.many, len(record.past))
        self.same(desk.report(), record.words)
        for question, (claim, paper) in record.kept.items():
            self.same(desk.claim(question), claim)
            self.same(desk.paper(question), paper)
            if claim is not None:
                self.assertTrue(is_paper(desk.wishes, claim, paper), (claim, paper))
                self.assertIs(claim_holds(desk.wishes, claim, paper), True)

    def deed(self, desk, record, name, *arguments):
        self.assertIsNone(getattr(desk, name)(*arguments))
        record.do(name, arguments)
        self.agree(desk, record)


def some_deed(desk, record, chance):
    """A deed of chance that the document lets, with its arguments."""
    collection = desk.wishes.collection
    n, groups = collection.n, collection.groups
    name = chance.choice(["prefer", "prefer", "swap", "bring", "drop", "watch", "watch", "leave", "undo", "undo", "redo"])
    member = chance.randrange(n)
    own = [place for place, group in enumerate(groups) if member in group]
    great = [place for place, group in enumerate(groups) if len(group) > 1]
    free = [group for group in all_groups(n) if group not in groups]
    if name == "prefer":
        return name, (member, chance.choice(own), chance.choice([0, 1, 2, 3, 99]))
    if name == "swap":
        return name, (member, chance.choice(own), chance.choice(own))
    if name == "bring" and free and len(groups) < 24:
        group = chance.choice(free)
        return name, (group, tuple(chance.choice([0, 1, 2, 50, 99]) for _ in group))
    if name == "drop" and great:
        return name, (chance.choice(great),)
    if name == "leave" and desk.watched:
        return name, (chance.choice(desk.watched),)
    if name == "undo" and record.past:
        return name, ()
    if name == "redo" and record.future:
        return name, ()
    asked = [question for question in WORDS if is_question_due(desk.wishes, question)]
    asked += [("lot", lot) for lot in chance.sample(due_lots(collection), 1)] * 3
    asked = [question for question in asked if len(desk.watched) < 8 or question in desk.watched]
    return ("watch", (chance.choice(asked),)) if asked else ("swap", (member, own[0], own[-1]))


def starts():
    """Wishes of 1 to 6 members to begin with, of pairs and not, strict and not."""
    found = [ONE, BOTH, odd_circle(3), odd_circle(5), by_lists([2, 3], [3, 2], [1, 0], [0, 1])]
    for seed in range(12):
        found += [random_wishes(seed), strict_wishes(random_pairs(seed), seed), strict_wishes(random_two_sides(seed), seed)]
    return [wishes for wishes in found if len(due_lots(wishes.collection)) < 40] + [random_wishes(23)]


class Deeds(Led):
    def test_rows_of_deeds(self):
        words, names = set(), set()
        for seed, wishes in enumerate(starts()):
            chance = random.Random(seed)
            desk, record = Desk(wishes), Record(wishes)
            self.agree(desk, record)
            for _ in range(30):
                name, arguments = some_deed(desk, record, chance)
                self.deed(desk, record, name, *arguments)
                words |= set(desk.report())
                names.add(name)
            while record.past:
                self.deed(desk, record, "undo")
            self.assertEqual(desk.wishes, wishes)
            while record.future:
                self.deed(desk, record, "redo")
        self.assertEqual(words, {"new", "none", "kept", "renewed", "changed"})
        self.assertEqual(len(names), 8)

    def test_sixty_deeds_and_eight_questions(self):
        wishes = strict_wishes(full_collection(4), 4)
        desk, record = Desk(wishes), Record(wishes)
        for question in [question for question in WORDS if question != ("odd",)]:
            self.deed(desk, record, "watch", question)
        for lot in due_lots(wishes.collection)[:2]:
            self.deed(desk, record, "watch", ("lot", lot))
        self.assertEqual(len(desk.watched), 8)
        chance = random.Random(4)
        for _ in range(52):
            member = chance.randrange(6)
            place = chance.choice(desk.wishes.collection.places_of(member))
            desk.prefer(member, place, chance.randrange(100))
            record.do("prefer", (member, place, desk.wishes.rank(member, place)))
        self.agree(desk, record)
        self.same(desk.many, 60)

    def test_begin(self):
        desk = Desk(wishes=BOTH)
        self.assertEqual(desk.wishes, BOTH)
        self.same((desk.watched, desk.many, desk.report()), ((), 0, ()))
        self.assertEqual(set(vars(desk)) & {"wishes", "watched", "many"}, {"wishes", "watched", "many"})
        self.assertRaises(TypeError, iter, desk)
        self.assertRaises(TypeError, list, desk)

    def test_by_name(self):
        desk = Desk(BOTH)
        self.assertIsNone(desk.prefer(rank=7, place=2, member=1))
        self.same(desk.wishes.ranks, ((1, 0), (1, 7)))
        self.assertIsNone(desk.swap(other=0, one=2, member=0))
        self.same(desk.wishes.ranks, ((0, 1), (1, 7)))
        self.assertIsNone(desk.drop(place=2))
        self.same(desk.wishes.collection.groups, ((0,), (1,)))
        self.assertIsNone(desk.bring(ranks=(4, 5), group=(0, 1)))
        self.same(desk.wishes.ranks, ((0, 4), (1, 5)))
        self.assertIsNone(desk.watch(question=("count",)))
        self.same(desk.claim(question=("count",)), ("count", 1))
        self.same(desk.paper(question=("count",)), ((0, 1, 0), 0))
        self.assertIsNone(desk.leave(question=("count",)))
        self.assertIsNone(desk.undo())
        self.assertIsNone(desk.redo())
        self.same(desk.many, 6)

    def test_bring_and_drop_move_places(self):
        wishes = Wishes(Collection(3, [(0, 1), (0,), (1,), (1, 2), (2,)]), ((1, 2), (3, 4, 5), (6, 7)))
        desk = Desk(wishes)
        desk.bring((0, 1, 2), (11, 12, 13))
        self.same(desk.wishes.collection.groups, ((0, 1), (0,), (1,), (1, 2), (2,), (0, 1, 2)))
        self.same(desk.wishes.ranks, ((1, 2, 11), (3, 4, 5, 12), (6, 7, 13)))
        desk.drop(3)
        self.same(desk.wishes.collection.groups, ((0, 1), (0,), (1,), (2,), (0, 1, 2)))
        self.same(desk.wishes.ranks, ((1, 2, 11), (3, 4, 12), (7, 13)))
        desk.drop(0)
        self.same(desk.wishes.ranks, ((2, 11), (4, 12), (7, 13)))
        desk.swap(1, 1, 3)
        self.same(desk.wishes.ranks, ((2, 11), (12, 4), (7, 13)))
        desk.swap(1, 3, 3)
        self.same(desk.wishes.ranks, ((2, 11), (12, 4), (7, 13)))
        self.same(desk.many, 5)

    def test_wishes_that_were_read_stay(self):
        desk = Desk(BOTH)
        read = [desk.wishes]
        for name, arguments in (("prefer", (0, 2, 9)), ("drop", (2,)), ("bring", ((0, 1), (3, 3))), ("swap", (1, 1, 2)),
                                ("undo", ()), ("watch", (("count",),))):
            before = [(exact(wishes.collection.groups), exact(wishes.ranks)) for wishes in read]
            watched = desk.watched
            shown_before = exact(watched)
            getattr(desk, name)(*arguments)
            self.assertEqual([(exact(wishes.collection.groups), exact(wishes.ranks)) for wishes in read], before)
            self.assertEqual(exact(watched), shown_before)
            read.append(desk.wishes)
        self.same(BOTH.ranks, ((1, 0), (1, 0)))

    def test_two_desks_by_turns(self):
        one, other = Desk(BOTH), Desk(BOTH)
        records = [Record(BOTH), Record(BOTH)]
        for seed in range(40):
            at = seed % 2
            desk = (one, other)[at]
            name, arguments = some_deed(desk, records[at], random.Random(seed))
            self.deed(desk, records[at], name, *arguments)
            self.agree((other, one)[at], records[1 - at])


class Undoing(Led):
    def test_both_ends(self):
        desk = Desk(BOTH)
        self.nothing("undo", desk)
        self.nothing("redo", desk)
        desk.prefer(0, 0, 50)
        self.nothing("redo", desk)
        desk.undo()
        self.nothing("undo", desk)
        self.assertEqual(desk.wishes, BOTH)
        desk.redo()
        self.nothing("redo", desk)
        self.same(desk.wishes.ranks, ((50, 0), (1, 0)))

    def nothing(self, word, desk):
        before = shown(desk)
        with self.assertRaises(NothingToUndo) as caught:
            getattr(desk, word)()
        self.assertIs(type(caught.exception), NothingToUndo)
        self.same(caught.exception.word, word)
        self.assertEqual(shown(desk), before)

    def test_a_new_deed_ends_what_can_be_redone(self):
        for name, arguments in (("prefer", (0, 0, 1)), ("swap", (0, 0, 0)), ("bring", ((0, 1, 2), (0, 0, 0))),
                                ("drop", (3,)), ("watch", (("some firm",),)), ("watch", (("count",),)), ("leave", (("count",),))):
            desk = Desk(odd_circle(3))
            desk.watch(("count",))
            desk.prefer(0, 0, 77)
            desk.prefer(0, 0, 78)
            desk.undo()
            desk.undo()
            self.same(desk.many, 1)
            getattr(desk, name)(*arguments)
            self.same(desk.many, 2)
            self.nothing("redo", desk)
            desk.undo()
            self.same(desk.watched, (("count",),))
            self.assertEqual(desk.wishes, odd_circle(3))

    def test_a_deed_that_fails_ends_nothing(self):
        desk = Desk(BOTH)
        desk.prefer(0, 0, 77)
        desk.undo()
        for name, arguments in WRONG_DEEDS:
            with self.assertRaises(ValueError):
                getattr(desk, name)(*arguments)
        desk.redo()
        self.same(desk.wishes.ranks, ((77, 0), (1, 0)))

    def test_deeds_that_change_nothing_are_deeds(self):
        desk, record = Desk(BOTH), Record(BOTH)
        for name, arguments in (("prefer", (0, 0, 1)), ("swap", (0, 0, 0)), ("watch", (("count",),)), ("watch", (("count",),))):
            self.deed(desk, record, name, *arguments)
        self.same(desk.many, 4)
        self.same(desk.watched, (("count",),))
        self.deed(desk, record, "undo")
        self.same(desk.watched, (("count",),))
        self.deed(desk, record, "undo")
        self.same(desk.watched, ())

    def test_undo_of_leave_gives_the_place_back(self):
        desk = Desk(BOTH)
        for question in (("count",), ("some firm",), ("some calm",)):
            desk.watch(question)
        desk.leave(("count",))
        self.same(desk.watched, (("some firm",), ("some calm",)))
        self.same(desk.report(), ("kept", "kept"))
        desk.undo()
        self.same(desk.watched, (("count",), ("some firm",), ("some calm",)))
        self.same(desk.report(), ("new", "kept", "kept"))
        desk.redo()
        self.same(desk.watched, (("some firm",), ("some calm",)))
        desk.watch(("count",))
        self.same(desk.watched, (("some firm",), ("some calm",), ("count",)))


class Kept(Led):
    def test_each_word(self):
        desk = Desk(BOTH)
        desk.watch(("some calm",))
        self.same(desk.report(), ("new",))
        self.same((desk.claim(("some calm",)), desk.paper(("some calm",))), (("some calm",), (2,)))
        desk.watch(("lot", (2,)))
        self.same(desk.report(), ("kept", "new"))
        desk.prefer(0, 0, 30)
        self.same(desk.report(), ("kept", "kept"))
        desk.prefer(0, 2, 31)
        self.same(desk.report(), ("renewed", "changed"))
        self.same((desk.claim(("some calm",)), desk.paper(("some calm",))), (("some calm",), (0, 1)))
        self.same((desk.claim(("lot", (2,))), desk.paper(("lot", (2,)))), (("left", (2,)), 0))
        desk.drop(2)
        self.same(desk.report(), ("kept", "none"))
        self.same((desk.claim(("lot", (2,))), desk.paper(("lot", (2,)))), (None, None))
        self.same(desk.watched, (("some calm",), ("lot", (2,))))
        desk.undo()
        self.same(desk.report(), ("kept", "changed"))
        self.same((desk.claim(("lot", (2,))), desk.paper(("lot", (2,)))), (("left", (2,)), 0))

    def test_what_still_holds_is_kept(self):
        # At first the lot (2,) alone is calm, then (0, 1) is, too, and would be found first.
        desk = Desk(BOTH)
        desk.watch(("some calm",))
        desk.prefer(0, 0, 0)
        desk.prefer(1, 1, 0)
        self.same(paper_of(desk.wishes, ("some calm",)), (0, 1))
        self.same(desk.paper(("some calm",)), (2,))
        self.same(desk.report(), ("kept",))

    def test_a_paper_of_the_same_claim_is_kept_though_another_would_be_found(self):
        desk = Desk(BOTH)
        desk.watch(("end", "free"))
        self.same(desk.paper(("end", "free")), (1, 0))
        desk.prefer(0, 0, 0)
        desk.prefer(1, 1, 0)
        self.same(paper_of(desk.wishes, ("end", "free")), (0, 0))
        self.same(desk.paper(("end", "free")), (1, 0))
        desk.leave(("end", "free"))
        desk.watch(("end", "free"))
        self.same(desk.paper(("end", "free")), (0, 0))
        self.same(desk.report(), ("new",))

    def test_watch_again_keeps_and_is_a_deed(self):
        desk = Desk(BOTH)
        desk.watch(("some calm",))
        desk.watch(("count",))
        desk.watch(("some calm",))
        self.same(desk.watched, (("some calm",), ("count",)))
        self.same(desk.report(), ("kept", "kept"))
        self.same(desk.many, 3)

    def test_none_when_it_comes_to_be_watched_by_undo(self):
        desk = Desk(BOTH)
        desk.watch(("lot", (2,)))
        desk.drop(2)
        self.same(desk.report(), ("none",))
        desk.leave(("lot", (2,)))
        self.same(desk.report(), ())
        desk.undo()
        self.same(desk.report(), ("new",))
        self.same((desk.claim(("lot", (2,))), desk.paper(("lot", (2,)))), (None, None))
        desk.undo()
        self.same(desk.report(), ("changed",))
        desk.redo()
        self.same(desk.report(), ("none",))

    def test_what_was_kept_is_forgotten(self):
        desk = Desk(BOTH)
        desk.watch(("odd",))
        desk.prefer(0, 0, 0)
        self.same(desk.report(), ("none",))
        self.same((desk.claim(("odd",)), desk.paper(("odd",))), (None, None))
        desk.prefer(0, 0, 1)
        self.same(desk.report(), ("changed",))
        self.same(desk.claim(("odd",)), ("odd", ()))

    def test_odd_by_bring_and_drop(self):
        desk, record = Desk(odd_circle(3)), Record(odd_circle(3))
        self.deed(desk, record, "watch", ("odd",))
        self.deed(desk, record, "bring", (0, 1, 2), (7, 8, 9))
        self.same(desk.report(), ("none",))
        self.deed(desk, record, "undo")
        self.same(desk.report(), ("changed",))
        self.deed(desk, record, "redo")
        self.same(desk.report(), ("none",))
        self.deed(desk, record, "drop", 6)
        self.same(desk.report(), ("changed",))
        self.same(desk.claim(("odd",)), ("odd", ((0, 1, 2),)))

    def test_undefined(self):
        desk = Desk(BOTH)
        for question in (("count",), ("lot", (0, 1)), ("end", "free")):
            desk.watch(question)
        twins = [("lot", (False, 1)), ("lot", (0, True)), ("lot", [0, 1]), ["lot", (0, 1)], ["count"], "count", ("lot", (2,))]
        before = shown(desk)
        for value in twins + [value for value in values() if exact(value) not in [exact(one) for one in desk.watched]]:
            for method in (desk.leave, desk.claim, desk.paper):
                self.undefined("watched", method, value)
        self.undefined("watched", desk.leave, question=None)
        self.assertEqual(shown(desk), before)
        desk.leave(("count",))
        self.undefined("watched", desk.claim, ("count",))


# Deeds that a desk of BOTH refuses.
WRONG_DEEDS = [
    ("prefer", (2, 0, 0)), ("prefer", (0, 1, 0)), ("prefer", (0, 0, 100)), ("swap", (0, 0, 1)), ("swap", (-1, 0, 0)),
    ("bring", ((0, 1), (0, 0))), ("drop", (0,)), ("drop", (3,)), ("watch", (("single",),)), ("leave", (("count",),)),
]


class Errors(Led):
    def setUp(self):
        self.desk = Desk(odd_circle(3))
        self.desk.watch(("lot", (0, 1, 2)))
        self.desk.watch(("end", "free"))
        self.desk.prefer(0, 0, 9)
        self.desk.undo()
        self.before = shown(self.desk)

    def fails(self, error, value, name, *arguments):
        self.refuses(error, value, getattr(self.desk, name), *arguments)

    def tearDown(self):
        self.assertEqual(shown(self.desk), self.before)
        self.desk.redo()
        self.same(self.desk.wishes.rank(0, 0), 9)
        self.same(self.desk.many, 3)

    def wrong_numbers(self, right):
        return [value for value in odd_values() + [2, 3, 4, 5, 6, 99, 100] if exact(value) not in [exact(one) for one in right]]

    def test_prefer(self):
        for member in self.wrong_numbers([0, 1, 2]):
            for place, rank in ((0, 0), (None, 100), (member, member)):
                self.fails(InvalidNumber, member, "prefer", member, place, rank)
        for place in self.wrong_numbers(self.desk.wishes.collection.places_of(1)):
            for rank in (0, None, place):
                self.fails(InvalidNumber, place, "prefer", 1, place, rank)
        for rank in self.wrong_numbers(range(100)):
            self.fails(InvalidNumber, rank, "prefer", 1, 1, rank)

    def test_swap(self):
        for member in self.wrong_numbers([0, 1, 2]):
            for one, other in ((0, 0), (None, 100), ([0], [1]), (member, member)):
                self.fails(InvalidNumber, member, "swap", member, one, other)
        for one in self.wrong_numbers(self.desk.wishes.collection.places_of(1)):
            for other in (1, None, [1], one):
                self.fails(InvalidNumber, one, "swap", 1, one, other)
            self.fails(InvalidNumber, one, "swap", 1, 1, one)

    def test_bring(self):
        for group in odd_values() + [(0, 1), (0,), [0, 1, 2], (0, 1, 3), (2, 1, 0), (False, 1, 2), (0, True, 2), 3, "012", (0, 1, 1)]:
            for ranks in ((0, 0, 0), None, (0,), group):
                self.fails(InvalidGroup, group, "bring", group, ranks)
        for ranks in odd_values() + [[0, 0, 0], (0, 0), (0, 0, 0, 0), (0, 0, True), (False, 0, 0), (0, 0, 100), (0, -1, 0),
                                     ((0, 0, 0),), (0, 0, None), "000"]:
            self.fails(InvalidRanks, ranks, "bring", (0, 1, 2), ranks)

    def test_drop(self):
        for place in self.wrong_numbers([3, 4, 5]) + [0, 1, 2]:
            self.fails(InvalidNumber, place, "drop", place)

    def test_watch_and_leave(self):
        for value in values():
            if not is_question_due(self.desk.wishes, value):
                self.fails(InvalidQuestion, value, "watch", value)
        for value in values():
            if exact(value) not in [exact(one) for one in self.desk.watched]:
                self.undefined("watched", self.desk.leave, value)

    def test_watched_but_no_question_now(self):
        desk = Desk(BOTH)
        desk.watch(("lot", (2,)))
        desk.drop(2)
        before = shown(desk)
        question = ("lot", (2,))
        self.refuses(InvalidQuestion, question, desk.watch, question)
        self.assertEqual(shown(desk), before)

    def test_24_groups(self):
        wishes = strict_wishes(full_collection(1), 1)
        desk = Desk(wishes)
        group = [group for group in all_groups(6) if group not in wishes.collection.groups][0]
        self.refuses(InvalidGroup, group, desk.bring, group, (0,) * len(group))
        self.same(desk.many, 0)
        desk.drop([place for place, group in enumerate(wishes.collection.groups) if len(group) > 1][0])
        desk.bring(group, (99,) * len(group))
        self.same(len(desk.wishes.collection), 24)

    def test_wrong_deeds_of_a_desk_of_two(self):
        for name, arguments in WRONG_DEEDS:
            desk = Desk(BOTH)
            with self.assertRaises(ValueError):
                getattr(desk, name)(*arguments)
            self.assertTrue(same_state(desk, Desk(BOTH)))
            self.assertEqual(desk.report(), ())


class SameState(Tests):
    def test_led_alike(self):
        deeds = [("watch", (("count",),)), ("prefer", (0, 0, 9)), ("watch", (("some firm",),)), ("undo", ())]
        for many in range(5):
            one, other = twin(deeds[:many], BOTH), twin(deeds[:many], Wishes(Collection(2, list(HOUSE.groups)), BOTH.ranks))
            self.assertIs(same_state(one, other), True)
            self.assertIs(same_state(other=one, one=other), True)
            self.assertIs(same_state(one, one), True)
            for fewer in range(many):
                self.assertIs(same_state(one, twin(deeds[:fewer], BOTH)), False)

    def test_other_wishes(self):
        for wishes in (Wishes(HOUSE, ((1, 0), (1, 2))), Wishes(Collection(2, [(1,), (0,), (0, 1)]), BOTH.ranks), ONE):
            self.assertIs(same_state(Desk(BOTH), Desk(wishes)), False)
        self.assertIs(same_state(twin([("prefer", (0, 0, 9))], BOTH), twin([("prefer", (0, 0, 8))], BOTH)), False)

    def test_other_questions_or_another_order(self):
        one = twin([("watch", (("count",),)), ("watch", (("some firm",),))], BOTH)
        self.assertIs(same_state(one, twin([("watch", (("some firm",),)), ("watch", (("count",),))], BOTH)), False)
        self.assertIs(same_state(one, twin([("watch", (("count",),)), ("watch", (("count",),))], BOTH)), False)
        self.assertIs(same_state(one, twin([("watch", (("count",),)), ("watch", (("some calm",),))], BOTH)), False)

    def test_other_questions_that_are_none_now(self):
        drops = [("drop", (5,)), ("drop", (4,))]
        one = twin([("watch", (("lot", (0, 5)),))] + drops, odd_circle(3))
        other = twin([("watch", (("lot", (1, 4)),))] + drops, odd_circle(3))
        self.same((one.report(), other.report()), (("none",), ("none",)))
        self.assertIs(same_state(one, other), False)

    def test_other_numbers_of_deeds(self):
        still = [("swap", (0, 0, 0))]
        self.assertIs(same_state(Desk(BOTH), twin(still, BOTH)), False)
        self.assertIs(same_state(twin(still, BOTH), twin(still * 2, BOTH)), False)
        undone = still + [("undo", ())]
        self.assertIs(same_state(Desk(BOTH), twin(undone, BOTH)), False)
        self.assertIs(same_state(twin(undone, BOTH), twin(undone, BOTH)), True)
        self.assertIs(same_state(twin(still * 2 + [("undo", ())] * 2, BOTH), twin(undone, BOTH)), False)

    def test_other_papers(self):
        watch, leave = ("watch", (("some calm",),)), ("leave", (("some calm",),))
        level = [("prefer", (0, 0, 0)), ("prefer", (1, 1, 0))]
        # Both look at wishes with two calm lots; the first one keeps the lot that it found when there was one.
        one = twin([watch, watch, watch] + level, BOTH)
        other = twin([watch, leave] + level + [watch], BOTH)
        self.same((one.many, other.many, one.watched, other.watched), (5, 5, (("some calm",),), (("some calm",),)))
        self.assertEqual(one.wishes, other.wishes)
        self.assertNotEqual(one.paper(("some calm",)), other.paper(("some calm",)))
        self.assertIs(same_state(one, other), False)

    def test_another_way_to_the_same(self):
        one = twin([("prefer", (0, 0, 9)), ("watch", (("count",),))], BOTH)
        other = twin([("watch", (("count",),)), ("prefer", (0, 0, 9))], BOTH)
        self.assertNotEqual(one.report(), other.report())
        self.assertIs(same_state(one, other), True)

    def test_answers_of_a_desk(self):
        desk = twin([("watch", (("count",),)), ("watch", (("end", "agreed"),))], odd_circle(3))
        for question in desk.watched:
            self.same(desk.claim(question), answer_of(desk.wishes, question))
            self.same(desk.paper(question), paper_of(desk.wishes, question))
        self.assertIs(same_state(desk, Desk(of_pairs_wishes())), False)


def of_pairs_wishes():
    return strict_wishes(of_pairs(3, [(0, 1)]), 1)


if __name__ == "__main__":
    unittest.main()
