"""Point 3 and the interface's row "errors"."""

import unittest

from paceplan import errors
from paceplan.errors import PaceError

FIELDS = {
    "NoSheet": ("word", "number"),
    "NoRoom": ("work",),
    "NoRule": ("number",),
    "NoSpeed": ("speed",),
    "NoMix": ("word", "number"),
    "NoPlan": ("word", "number"),
    "NoText": ("at",),
    "NoStretch": ("word", "number"),
    "NoPrice": ("work",),
    "NoLeast": ("over",),
    "NoMuch": ("word",),
    "NoBill": ("word", "number"),
}
OF_A_TEXT = ("NoRatio", "NoWork", "NoTurn", "NoRow")
ALL_NAMES = tuple(FIELDS) + OF_A_TEXT
PLAIN_THINGS = (0, -1, 10 ** 199, True, False, None, "", "shape", (), (1, 2), [], [1, (True, ["x"])])


def made(name):
    """A refusal of this name, of some fields that fit."""
    return getattr(errors, name)(*["x" for field in FIELDS.get(name, ("text",))])


class Fields(unittest.TestCase):
    def test_there_are_sixteen(self):
        self.assertEqual(len(ALL_NAMES), 16)
        there = [name for name, value in vars(errors).items() if isinstance(value, type)]
        self.assertEqual(sorted(there), sorted(ALL_NAMES + ("PaceError",)))

    def test_fields_by_name_and_in_order(self):
        for name, fields in FIELDS.items():
            values = [("field", place) for place in range(len(fields))]
            refusal = getattr(errors, name)(*values)
            with self.subTest(name):
                self.assertEqual([getattr(refusal, field) for field in fields], values)

    def test_any_plain_things_are_kept_as_they_are(self):
        for name, fields in FIELDS.items():
            for thing in PLAIN_THINGS:
                refusal = getattr(errors, name)(*[thing for field in fields])
                with self.subTest(name, thing=thing):
                    for field in fields:
                        self.assertEqual(repr(getattr(refusal, field)), repr(thing))

    def test_what_is_kept_is_a_copy(self):
        for name, fields in FIELDS.items():
            thing = [1, [2]]
            refusal = getattr(errors, name)(*[thing for field in fields])
            thing[1].append(3)
            thing.append(4)
            with self.subTest(name):
                for field in fields:
                    self.assertEqual(getattr(refusal, field), [1, [2]])

    def test_made_of_just_these(self):
        for name in ALL_NAMES:
            count = len(FIELDS.get(name, ("text",)))
            for wrong in (count - 1, count + 1):
                with self.subTest(name, wrong=wrong), self.assertRaises(TypeError):
                    getattr(errors, name)(*["x" for place in range(wrong)])

    def test_made_of_a_text(self):
        for name in OF_A_TEXT:
            for text in ("", "x", "some words of it"):
                with self.subTest(name, text=text):
                    self.assertEqual(str(getattr(errors, name)(text)), text)


class Bases(unittest.TestCase):
    def test_base_is_a_value_error(self):
        self.assertEqual(PaceError.__bases__, (ValueError,))

    def test_each_stands_straight_under_the_base(self):
        for name in ALL_NAMES:
            with self.subTest(name):
                self.assertEqual(getattr(errors, name).__bases__, (PaceError,))

    def test_each_is_taken_by_the_bases(self):
        for name in ALL_NAMES:
            for base in (PaceError, ValueError, getattr(errors, name)):
                with self.subTest(name, base=base), self.assertRaises(base):
                    raise made(name)

    def test_none_is_taken_by_another_one(self):
        for name in ALL_NAMES:
            for other in ALL_NAMES:
                with self.subTest(name, other=other):
                    self.assertEqual(isinstance(made(name), getattr(errors, other)), name == other)


if __name__ == "__main__":
    unittest.main()
