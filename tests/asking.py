"""What many tests ask: whether a call is refused as it should be, and odd values to ask it with."""

import unittest

from dotquilts.errors import NoWord, QuiltError

GREAT = 10 ** 400
# Stands for the thing that is asked for where an error is to tell it.
THING = object()


def odd_values():
    """Objects of many built-in types and of the package, none of them an integer."""
    endless = [4]
    endless.append(endless)
    deep = {4: 4}
    deep[5] = deep
    return [
        None, True, False, "", "4", "one", b"", b"4", bytearray(b"4"), memoryview(b"4"), 4j, [], [4], (), (4,),
        [[4]], ((4,),), {}, {4: 4}, {4}, frozenset({4}), range(4), slice(4), object(), object, int, bool, len,
        NotImplemented, Ellipsis, iter([4]), (word for word in [4]), zip([4]), map(int, ["4"]), ValueError(4),
        NoWord("one", 4), NoWord, QuiltError, unittest, lambda: 4, property(), endless, (endless, 4), deep,
        "4" * 1000, ("4", "2", "0"), (None, None), (4, "2", 0), (True, True), (True, True, True),
    ]


def no_rows():
    """Objects that are neither lists nor tuples."""
    return [thing for thing in odd_values() if not isinstance(thing, (list, tuple))]


def numbers_beyond(least, most):
    """Integers that are just outside of these, or far off."""
    return [least - 1, least - 2, most + 1, most + 2, GREAT, -GREAT]


def no_texts():
    """Pairs of a value that is no text and the index that NoText is to tell of it."""
    things = [thing for thing in odd_values() if not isinstance(thing, str)] + [0, 1, GREAT]
    wrong = ["`", '"', "%", "\\", "\t", "\r", "\x00", "\x7f", "\u00e4", "\u0663", "\u00b2", "\u2028", "\ud800",
             "\U0001f600"]
    found = [(thing, -1) for thing in things]
    for at, sign in enumerate(wrong):
        found += [(sign, 0), ("aA0" * at + sign + "%`", 3 * at)]
    return found + [("a" * 299 + "%", 299)]


def no_dots(many):
    """Values that are no dot of a square with so many rows and columns."""
    found = odd_values() + [0, 4, GREAT, (0, 0, 0), (0,), [0, 0], [1, 1], "00", b"00", {0: 0, 1: 0}]
    for number in odd_values() + [-1, many, many + 1, GREAT, -GREAT]:
        found += [(number, 0), (0, number), (number, number), (3, number)]
    return found


def wrong_dots():
    """Values that no dot of a grid has; None is one that is lost."""
    return [thing for thing in odd_values() if thing is not None] + numbers_beyond(0, 1)


def no_grids(grid):
    """Triples of what is no grid, made of one that is, and the row and the column that NoGrid is to tell.

    Behind the first thing that is wrong there are others that are wrong, too, or none.
    """
    many = len(grid)
    rows = [list(dots) for dots in grid]
    found = [(thing, -1, -1) for thing in odd_values() + [0, 8, [], (), rows[1:], rows + rows[:1], "0" * many]]
    for at, thing in enumerate(odd_values() + [0, 1, (), [0] * (many - 1), [None] * (many + 1), "0" * many]):
        row = at % many
        found.append((rows[:row] + [thing] + [None] * (many - row - 1), row, -1))
    for at, thing in enumerate(wrong_dots()):
        row, column = at * 5 % many, at * 3 % many
        dots = rows[row][:column] + [thing] + [2] * (many - column - 1)
        found.append((rows[:row] + [dots] + [None] * (many - row - 1), row, column))
        found.append((tuple(rows[:row] + [tuple(dots)] + [()] * (many - row - 1)), row, column))
        # And where nothing else is wrong.
        alone = rows[row][:column] + [thing] + rows[row][column + 1:]
        found.append((rows[:row] + [alone] + rows[row + 1:], row, column))
    return found


def lists_of(thing):
    """All lists and dicts within a value, itself included."""
    found = [thing] if isinstance(thing, (list, dict)) else []
    if isinstance(thing, (list, tuple)):
        for item in thing:
            found.extend(lists_of(item))
    elif isinstance(thing, dict):
        for item in thing.values():
            found.extend(lists_of(item))
    return found


class Asking(unittest.TestCase):
    """A test with the questions that the others share."""

    def assert_same(self, got, wanted):
        """Also of the same kind all through: 1 is not True, and a list is no tuple."""
        self.assertIs(type(got), type(wanted))
        if isinstance(wanted, (list, tuple)):
            self.assertEqual(len(got), len(wanted))
            for one, other in zip(got, wanted):
                self.assert_same(one, other)
        elif isinstance(wanted, dict):
            self.assertEqual(got, wanted)
            for key in wanted:
                self.assert_same(got[key], wanted[key])
        else:
            self.assertEqual(got, wanted)

    def assert_each_refused(self, error, fields, call, things, *ahead):
        """The call raises this error for each of the things, behind the arguments that are ahead."""
        for thing in things:
            self.assert_refused(error, {name: thing if wanted is THING else wanted for name, wanted in fields.items()},
                                call, *ahead, thing)

    def assert_refused(self, error, fields, call, *told, **named):
        """The call raises just this error, with these fields: by name, kept as they are.

        What is told by position is told by name, too, in a second call.
        """
        self.check_refused_once(error, fields, call, told, named)
        if told:
            names = call.__code__.co_varnames[:len(told)]
            self.check_refused_once(error, fields, call, (), {**dict(zip(names, told)), **named})

    def check_refused_once(self, error, fields, call, told, named):
        with self.assertRaises(error) as caught:
            call(*told, **named)
        self.assertIs(type(caught.exception), error)
        for name, wanted in fields.items():
            got = getattr(caught.exception, name)
            if isinstance(wanted, (int, str)):
                self.assert_same(got, wanted)
            else:
                self.assertIs(got, wanted)

    def assert_asked_anew(self, call, *told, **named):
        """An answer holds no list or dict that a later answer, or an argument, holds too; no argument changes."""
        asked = repr((told, named))
        first = call(*told, **named)
        kept = repr(first)
        second = call(*told, **named)
        self.assertEqual(repr((told, named)), asked)
        others = lists_of(second) + lists_of(told) + lists_of(list(named.values()))
        within = lists_of(first)
        for at, one in enumerate(within):
            self.assertFalse(any(one is other for other in others + within[:at]))
        for one in within:
            if isinstance(one, dict):
                one.clear()
                one["more"] = 1
            else:
                one.append("more")
                one.reverse()
        self.assertEqual(repr(second), kept)
        self.assertEqual(repr(call(*told, **named)), kept)
