"""The desk: wishes that are edited, and questions of them that are watched.

A state is a pair of wishes and watched questions. What is kept of a watched question is
a pair of a claim and a paper; it is (None, None) of what is no question for the wishes.
"""

from calmgroups.checks import has_bool, is_tuple_of, plainly
from calmgroups.claims import answer_of, is_question
from calmgroups.errors import InvalidNumber, InvalidQuestion, InvalidRanks, NothingToUndo, Undefined
from calmgroups.papers import claim_holds, paper_of
from calmgroups.wishes import Wishes, is_rank


class Desk:
    """Wishes that are edited by deeds; for each watched question a claim and a paper are kept."""

    def __init__(self, wishes):
        self.wishes = wishes
        self.watched = ()
        self.many = 0
        # The states ahead of the deeds that can be undone, and behind those that can be redone.
        self._past = ()
        self._future = ()
        self._kept = ()
        self._words = ()

    def prefer(self, member, place, rank):
        """The member's rank of its group at this place becomes rank."""
        # Asking for the rank so far raises what is due of a wrong member or place.
        self.wishes.rank(member, place)
        if not is_rank(rank):
            raise InvalidNumber(rank)
        self._edit(_with_ranks(self.wishes, member, {place: rank}))

    def swap(self, member, one, other):
        """The member's ranks of its groups at both places are exchanged."""
        rank = self.wishes.rank(member, one)
        other_rank = self.wishes.rank(member, other)
        self._edit(_with_ranks(self.wishes, member, {one: other_rank, other: rank}))

    def bring(self, group, ranks):
        """The group stands behind the others, ranked so by its members."""
        collection = self.wishes.collection.with_group(group)
        if not is_tuple_of(ranks, len(group), is_rank):
            raise InvalidRanks(ranks)
        rows = list(self.wishes.ranks)
        for member, rank in zip(group, ranks):
            rows[member] = rows[member] + (rank,)
        self._edit(Wishes(collection, tuple(rows)))

    def drop(self, place):
        """The collection is without the group of two or more at this place."""
        before = self.wishes.collection
        collection = before.without(place)
        rows = list(self.wishes.ranks)
        for member in before.groups[place]:
            at = before.places_of(member).index(place)
            rows[member] = rows[member][:at] + rows[member][at + 1:]
        self._edit(Wishes(collection, tuple(rows)))

    def watch(self, question):
        """The question is watched from now on, behind the others, if it is not yet."""
        if not is_question(self.wishes, question):
            raise InvalidQuestion(question)
        watched = self.watched
        if question not in watched:
            watched = watched + (plainly(question),)
        self._do(self.wishes, watched)

    def leave(self, question):
        """The question is watched no longer."""
        at = self._find(question)
        self._do(self.wishes, self.watched[:at] + self.watched[at + 1:])

    def undo(self):
        """The state becomes what it was ahead of the last deed that is not undone."""
        if len(self._past) == 0:
            raise NothingToUndo("undo")
        wishes, watched = self._past[-1]
        self._past = self._past[:-1]
        self._future = self._future + ((self.wishes, self.watched),)
        self._become(wishes, watched)

    def redo(self):
        """The last undone deed is done again."""
        if len(self._future) == 0:
            raise NothingToUndo("redo")
        wishes, watched = self._future[-1]
        self._future = self._future[:-1]
        self._past = self._past + ((self.wishes, self.watched),)
        self._become(wishes, watched)

    def claim(self, question):
        """The claim that is kept of a watched question."""
        return self._kept[self._find(question)][0]

    def paper(self, question):
        """The paper that is kept of a watched question."""
        return self._kept[self._find(question)][1]

    def report(self):
        """For each watched question the word for what the last deed made of it."""
        return self._words

    def _find(self, question):
        """The number, among the watched questions, of any value that is one."""
        # A question with a bool in it would be found like its twin.
        if question not in self.watched or has_bool(question):
            raise Undefined("watched")
        return self.watched.index(question)

    def _edit(self, wishes):
        """Does a deed that makes the wishes these."""
        self._do(wishes, self.watched)

    def _do(self, wishes, watched):
        """Does a deed other than undo and redo, which leads to this state."""
        self._past = self._past + ((self.wishes, self.watched),)
        self._future = ()
        self._become(wishes, watched)

    def _become(self, wishes, watched):
        """Takes on this state, and looks at each watched question."""
        told = [self._looked_at(wishes, question) for question in watched]
        self._kept = tuple([kept for _, kept in told])
        self._words = tuple([word for word, _ in told])
        self.wishes = wishes
        self.watched = watched
        self.many = len(self._past)

    def _looked_at(self, wishes, question):
        """The word for a question that is watched with these wishes, and what is kept of it."""
        new = question not in self.watched
        if not is_question(wishes, question):
            return ("new" if new else "none", (None, None))
        claim, paper = (None, None) if new else self._kept[self.watched.index(question)]
        if claim_holds(wishes, claim, paper):
            return ("kept", (claim, paper))
        answer = answer_of(wishes, question)
        word = "renewed" if answer == claim else "changed"
        return ("new" if new else word, (answer, paper_of(wishes, question)))


def same_state(one, other):
    """Whether two desks have equal wishes, watched questions, claims, papers and numbers of deeds."""
    if one.wishes != other.wishes or one.watched != other.watched or one._kept != other._kept:
        return False
    return one.many == other.many and len(one._future) == len(other._future)


def _with_ranks(wishes, member, ranks):
    """The wishes in which the member has these ranks, by place, and the others as before."""
    places = wishes.collection.places_of(member)
    row = [ranks.get(place, rank) for place, rank in zip(places, wishes.ranks[member])]
    rows = wishes.ranks[:member] + (tuple(row),) + wishes.ranks[member + 1:]
    return Wishes(wishes.collection, rows)
