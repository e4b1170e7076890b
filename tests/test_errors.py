"""Point [3]."""

import unittest

from calmgroups import errors
from calmgroups.errors import GroupError
from calmgroups.groups import Collection

NAMES = {
    "InvalidNumber": ("value",),
    "InvalidGroups": ("value",),
    "InvalidGroup": ("value",),
    "InvalidRanks": ("value",),
    "InvalidValues": ("value",),
    "InvalidOrders": ("value",),
    "InvalidText": ("text", "at"),
    "InvalidLot": ("value",),
    "InvalidMembers": ("value",),
    "InvalidTree": ("value",),
    "InvalidKind": ("value",),
    "InvalidQuestion": ("value",),
    "InvalidClaim": ("value",),
    "Undefined": ("what",),
    "NothingToUndo": ("word",),
}

CLASSES = [getattr(errors, name) for name in NAMES]


class Attributes(unittest.TestCase):
    def test_by_position(self):
        for name, words in NAMES.items():
            with self.subTest(name):
                values = [object() for _ in words]
                self.check(getattr(errors, name)(*values), words, values)

    def test_by_name(self):
        for name, words in NAMES.items():
            with self.subTest(name):
                values = [object() for _ in words]
                self.check(getattr(errors, name)(**dict(zip(words, values))), words, values)

    def check(self, error, words, values):
        for word, value in zip(words, values):
            self.assertIs(getattr(error, word), value)
        self.assertEqual(sorted(vars(error)), sorted(words))

    def test_text_by_name_in_the_other_order(self):
        error = errors.InvalidText(at=4, text="0: 0\n1")
        self.assertEqual((error.text, error.at), ("0: 0\n1", 4))

    def test_values_of_every_kind_are_kept_themselves(self):
        mutable = [1, [2]]
        for value in (None, True, 7, "word", (), mutable, Collection(1, [(0,)]), errors.Undefined("top")):
            for error in CLASSES:
                if error is not errors.InvalidText:
                    word = NAMES[error.__name__][0]
                    self.assertIs(getattr(error(value), word), value)
        error = errors.InvalidGroups(mutable)
        mutable.append(3)
        self.assertEqual(error.value, [1, [2], 3])

    def test_made_with_no_more_and_no_less(self):
        for name, words in NAMES.items():
            with self.subTest(name):
                error = getattr(errors, name)
                for many in (0, 1, 2, 3):
                    if many != len(words):
                        self.assertRaises(TypeError, error, *range(many))
                self.assertRaises(TypeError, error, **{word + "s": 1 for word in words})


class Standing(unittest.TestCase):
    def test_all_stand_under_group_error(self):
        self.assertTrue(issubclass(GroupError, ValueError))
        for error in CLASSES:
            self.assertTrue(issubclass(error, GroupError))
            self.assertFalse(issubclass(GroupError, error))

    def test_none_stands_under_another_one(self):
        self.assertEqual(len(CLASSES), 15)
        for one in CLASSES:
            for other in CLASSES:
                if one is not other:
                    self.assertFalse(issubclass(one, other), (one, other))

    def test_no_class_stands_between(self):
        self.assertEqual(GroupError.__bases__, (ValueError,))
        for error in CLASSES:
            self.assertEqual(error.__bases__, (GroupError,))

    def test_no_other_error_class(self):
        found = {name for name, value in vars(errors).items() if isinstance(value, type)}
        self.assertEqual(found, set(NAMES) | {"GroupError"})

    def test_caught_as_what_they_are(self):
        for name, words in NAMES.items():
            for wider in (GroupError, ValueError):
                with self.assertRaises(wider):
                    raise getattr(errors, name)(*range(len(words)))

    def test_not_iterable(self):
        for name, words in NAMES.items():
            self.assertRaises(TypeError, iter, getattr(errors, name)(*range(len(words))))


if __name__ == "__main__":
    unittest.main()
