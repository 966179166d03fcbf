"""What many tests ask: whether a call is refused as it should be, and odd values to ask it with."""

import unittest

from dotquilts.errors import NoWord, QuiltError


def odd_values():
    """Objects of many built-in types and of the package, none of them an integer."""
    endless = [4]
    endless.append(endless)
    deep = {4: 4}
    deep[5] = deep
    return [
        None, True, False, "", "4", "one", b"", b"4", bytearray(b"4"), memoryview(b"4"), 4j, [], [4], (), (4,),
        [[4]], ((4,),), {}, {4: 4}, {4}, frozenset({4}), range(4), slice(4), object(), object, int, bool, len,
        NotImplemented, Ellipsis, iter([4]), (word for word in [4]), zip([4]), map(int, ["4"]), ValueError(4),
        NoWord("one", 4), NoWord, QuiltError, unittest, lambda: 4, property(), endless, (endless, 4), deep,
        "4" * 1000, ("4", "2", "0"), (None, None), (4, "2", 0), (True, True), (True, True, True),
    ]


def lists_of(thing):
    """All lists within a value, itself included."""
    found = [thing] if isinstance(thing, list) else []
    if isinstance(thing, (list, tuple)):
        for item in thing:
            found.extend(lists_of(item))
    return found


class Asking(unittest.TestCase):
    """A test with the questions that the others share."""

    def assert_same(self, got, wanted):
        """Also of the same kind all through: 1 is not True, and a list is no tuple."""
        self.assertIs(type(got), type(wanted))
        if isinstance(wanted, (list, tuple)):
            self.assertEqual(len(got), len(wanted))
            for one, other in zip(got, wanted):
                self.assert_same(one, other)
        elif isinstance(wanted, dict):
            self.assertEqual(got, wanted)
            for key in wanted:
                self.assert_same(got[key], wanted[key])
        else:
            self.assertEqual(got, wanted)

    def assert_refused(self, error, fields, call, *told, **named):
        """The call raises just this error, with these fields: by name, kept as they are."""
        with self.assertRaises(error) as caught:
            call(*told, **named)
        self.assertIs(type(caught.exception), error)
        for name, wanted in fields.items():
            got = getattr(caught.exception, name)
            if isinstance(wanted, (int, str)):
                self.assert_same(got, wanted)
            else:
                self.assertIs(got, wanted)

    def assert_asked_anew(self, call, *told):
        """An answer holds no list that a later answer, or an argument, holds too."""
        first = call(*told)
        kept = repr(first)
        second = call(*told)
        others = lists_of(second) + lists_of(told)
        within = lists_of(first)
        for at, one in enumerate(within):
            self.assertFalse(any(one is other for other in others + within[:at]))
        for one in within:
            one.append("more")
            one.reverse()
        self.assertEqual(repr(second), kept)
        self.assertEqual(repr(call(*told)), kept)
