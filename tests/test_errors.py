"""Point 3 and the interface: the exception classes and their fields."""

import unittest

from dotquilts import errors
from dotquilts.errors import QuiltError
from tests.asking import odd_values

FIELDS = {
    "NoField": ("bits",), "NoWord": ("part", "index"), "NoSize": ("size",), "NoLevel": ("level",),
    "NoMask": ("mask",), "NoDot": ("dot",), "NoIndex": ("index",), "NoWords": ("index",),
    "NoBlock": ("block", "index"), "NoGrid": ("row", "column"), "NoCode": ("code",), "NoNumber": ("part",),
    "TooLarge": ("limit",), "NoWish": ("dot",), "NoDots": ("index",), "NoPattern": ("index",),
    "NoAnswer": ("part", "index"), "NoPicture": ("line",), "NoChange": ("word",), "NoText": ("index",),
    "NoPieces": ("index",), "NoBits": ("index",), "Unread": ("at", "why"), "TooLong": ("bits",),
    "NoSeries": ("why", "numbers"), "NoParts": ("which", "index"), "NoFormat": ("part",),
    "NoStain": ("part", "index"), "NoKind": ("kind",), "NoPaper": ("part",), "Unmended": ("part", "index"),
    "NoPose": ("pose",), "NoPlace": ("place",),
}


class Classes(unittest.TestCase):

    def test_base_derives_from_value_error(self):
        self.assertEqual(QuiltError.__bases__, (ValueError,))
        self.assertEqual(QuiltError.__module__, "dotquilts.errors")

    def test_each_class_derives_directly_from_the_base(self):
        for name in FIELDS:
            with self.subTest(name):
                self.assertEqual(getattr(errors, name).__bases__, (QuiltError,))
                self.assertEqual(getattr(errors, name).__module__, "dotquilts.errors")
                self.assertEqual(getattr(errors, name).__name__, name)

    def test_each_class_is_caught_as_its_bases(self):
        for name, fields in FIELDS.items():
            for base in (QuiltError, ValueError):
                with self.subTest(name), self.assertRaises(base):
                    raise getattr(errors, name)(*fields)


class Fields(unittest.TestCase):

    def check(self, error, wanted):
        for field, thing in wanted.items():
            self.assertIs(getattr(error, field), thing)

    def test_fields_by_position_and_by_name_are_kept_as_they_are(self):
        things = odd_values() + [0, 1, -1, 10 ** 5000]
        for name, fields in FIELDS.items():
            kind = getattr(errors, name)
            for at in range(len(things)):
                wanted = {field: things[(at + step) % len(things)] for step, field in enumerate(fields)}
                with self.subTest(name, at=at):
                    self.check(kind(*wanted.values()), wanted)
                    self.check(kind(**wanted), wanted)
                    backwards = {field: wanted[field] for field in reversed(fields)}
                    self.check(kind(**backwards), wanted)

    def test_first_by_position_and_second_by_name(self):
        for name, fields in FIELDS.items():
            if len(fields) == 2:
                with self.subTest(name):
                    error = getattr(errors, name)("first", **{fields[1]: "second"})
                    self.check(error, {fields[0]: "first", fields[1]: "second"})

    def test_a_list_is_not_copied(self):
        numbers = [1]
        error = errors.NoSeries("lacking", numbers)
        numbers.append(2)
        self.assertIs(error.numbers, numbers)

    def test_objects_are_on_their_own(self):
        one, other = errors.NoWord("one", 1), errors.NoWord("other", 2)
        self.check(one, {"part": "one", "index": 1})
        self.check(other, {"part": "other", "index": 2})


if __name__ == "__main__":
    unittest.main()
