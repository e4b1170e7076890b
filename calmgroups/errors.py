"""The errors of the package; all stand under GroupError, none under another one.

An error keeps what it is made with itself, not a copy of it.
"""


class GroupError(ValueError):
    """What all errors of the package are; it is never raised itself."""


class InvalidNumber(GroupError):
    def __init__(self, value):
        self.value = value


class InvalidGroups(GroupError):
    def __init__(self, value):
        self.value = value


class InvalidGroup(GroupError):
    def __init__(self, value):
        self.value = value


class InvalidRanks(GroupError):
    def __init__(self, value):
        self.value = value


class InvalidValues(GroupError):
    def __init__(self, value):
        self.value = value


class InvalidOrders(GroupError):
    def __init__(self, value):
        self.value = value


class InvalidText(GroupError):
    """At is the place in the text at which its first wrong line begins."""

    def __init__(self, text, at):
        self.text = text
        self.at = at


class InvalidLot(GroupError):
    def __init__(self, value):
        self.value = value


class InvalidMembers(GroupError):
    def __init__(self, value):
        self.value = value


class InvalidTree(GroupError):
    def __init__(self, value):
        self.value = value


class InvalidKind(GroupError):
    def __init__(self, value):
        self.value = value


class InvalidQuestion(GroupError):
    def __init__(self, value):
        self.value = value


class InvalidClaim(GroupError):
    def __init__(self, value):
        self.value = value


class Undefined(GroupError):
    """What is the word for the thing that is not there, or for what bars it."""

    def __init__(self, what):
        self.what = what


class NothingToUndo(GroupError):
    """Word is "undo" or "redo"."""

    def __init__(self, word):
        self.word = word
