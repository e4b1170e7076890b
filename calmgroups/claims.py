"""Questions of wishes or of a collection, and the claims that may answer them."""

from calmgroups.calm import calm_lots, firm_lots, leaving
from calmgroups.checks import is_number, is_number_below, plainly
from calmgroups.divisions import odd_rings
from calmgroups.errors import InvalidClaim, InvalidQuestion
from calmgroups.lapping import laps_singly
from calmgroups.lots import is_lot
from calmgroups.moves import ends, is_kind
from calmgroups.pairs import has_sides, is_pairs
from calmgroups.trees import hangs_together, heaviest_tree
from calmgroups.wishes import Wishes, is_strict

# For the word of each claim that of the question that it may answer.
QUESTION_WORDS = {
    "some calm": "some calm", "none calm": "some calm", "some firm": "some firm", "none firm": "some firm",
    "calm": "lot", "left": "lot", "count": "count", "end": "end", "ring": "end", "odd": "odd",
    "single": "single", "rings": "single", "tree": "tree", "no tree": "tree", "sides": "sides", "odd ring": "sides",
}


def is_question(thing, value):
    """Whether any value is a question for these wishes or for this collection."""
    if not isinstance(value, tuple) or len(value) not in (1, 2):
        return False
    if len(value) == 1:
        return value[0] in _single_words(thing)
    if not isinstance(thing, Wishes):
        return False
    if value[0] == "lot":
        return is_lot(thing.collection, value[1])
    return value[0] == "end" and is_kind(value[1])


def is_claim(thing, value):
    """Whether any value is a claim for these wishes or for this collection."""
    if not isinstance(value, tuple) or len(value) not in (1, 2):
        return False
    if not isinstance(value[0], str) or value[0] not in QUESTION_WORDS:
        return False
    if value[0] == "count" and not (len(value) == 2 and is_number(value[1])):
        return False
    if value[0] == "odd" and not (len(value) == 2 and _may_be_rings(thing, value[1])):
        return False
    return is_question(thing, _question_behind(value))


def answer_of(thing, question):
    """The true one of the claims that may answer the question."""
    if not is_question(thing, question):
        raise InvalidQuestion(question)
    if question[0] == "count":
        return ("count", len(calm_lots(thing)))
    if question[0] == "odd":
        return ("odd", odd_rings(thing))
    if not isinstance(thing, Wishes):
        return (_word_of_collection(thing, question[0]),)
    return (_word_of_wishes(thing, question),) + plainly(question[1:])


def question_of(thing, claim):
    """The question that the claim may answer."""
    if not is_claim(thing, claim):
        raise InvalidClaim(claim)
    return plainly(_question_behind(claim))


def _single_words(thing):
    """The words of those questions for this thing that have nothing but a word."""
    if not isinstance(thing, Wishes):
        return ("single", "tree", "sides") if is_pairs(thing) else ("single", "tree")
    if is_pairs(thing.collection) and is_strict(thing):
        return ("some calm", "some firm", "count", "odd")
    return ("some calm", "some firm", "count")


def _may_be_rings(thing, value):
    """Whether any value is a tuple of tuples of members, if the thing is wishes."""
    if not isinstance(thing, Wishes) or not isinstance(value, tuple):
        return False
    n = thing.collection.n
    return all([isinstance(ring, tuple) and all([is_number_below(one, n) for one in ring]) for ring in value])


def _question_behind(claim):
    """The question of a claim whose word is right."""
    word = QUESTION_WORDS[claim[0]]
    if word in ("count", "odd"):
        return (word,)
    return (word,) + claim[1:]


def _word_of_wishes(wishes, question):
    """The word of the true claim for a question of wishes."""
    if question[0] == "some calm":
        return "some calm" if len(calm_lots(wishes)) > 0 else "none calm"
    if question[0] == "some firm":
        return "some firm" if len(firm_lots(wishes)) > 0 else "none firm"
    if question[0] == "lot":
        return "calm" if leaving(wishes, question[1]) is None else "left"
    return "end" if ends(wishes, question[1]) else "ring"


def _word_of_collection(collection, word):
    """The word of the true claim for a question of a collection."""
    if word == "single":
        return "single" if laps_singly(collection) else "rings"
    if word == "tree":
        # The groups hang together on some tree exactly if they do on a heaviest one.
        return "tree" if hangs_together(collection, heaviest_tree(collection)) else "no tree"
    return "sides" if has_sides(collection) else "odd ring"
