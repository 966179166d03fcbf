"""Point 34: all ways to fill the lost dots of a grid."""

import random
import unittest
from itertools import product

from dotquilts.errors import NoGrid, TooLarge, Unmended, Unread
from dotquilts.symbols import fillings, read, symbol
from tests import drawing, walking
from tests.asking import Asking, no_grids
from tests.drawing import FORMAT_DOTS
from tests.walking import BITS, LEVELS, PATHS, SIDES, SIZES


def lost_dots(grid):
    return [(row, column) for row, dots in enumerate(grid) for column, dot in enumerate(dots) if dot is None]


def text_or_none(grid):
    try:
        return read(grid)[0]
    except (Unmended, Unread):
        return None


def all_fillings(grid):
    """Each filling read by itself."""
    lost = lost_dots(grid)
    counts = {}
    for shades in product((0, 1), repeat=len(lost)):
        whole = [list(dots) for dots in grid]
        for (row, column), shade in zip(lost, shades):
            whole[row][column] = shade
        text = text_or_none(whole)
        counts[text] = counts.get(text, 0) + 1
    refused = [(None, counts.pop(None))] if None in counts else []
    return refused + sorted(counts.items())


def dots_of_kind(size, kind):
    if kind == "border":
        return sorted(walking.border(size))
    return FORMAT_DOTS[size] if kind == "format" else PATHS[size]


class Fillings(Asking):

    def check(self, grid):
        wanted = all_fillings(grid)
        got = fillings(grid)
        self.assert_same(got, wanted)
        self.assertEqual(sum(many for _, many in got), 2 ** len(lost_dots(grid)))
        return got

    def small(self, size, dice):
        """A symbol of any data words, some of whose dots lie."""
        level = dice.choice(LEVELS)
        data = [dice.randrange(2 ** BITS[size]) for _ in range(drawing.data_count(size, level))]
        # Many such rows are no texts; with the end ahead they are.
        data[0] = dice.choice((0, 2, 4, data[0]))
        grid = drawing.symbol_of(size, level, dice.randrange(8), data)
        for row, column in dice.sample(PATHS[size], dice.randrange(3)):
            grid[row][column] ^= 1
        return grid

    def test_lost_dots_of_all_kinds(self):
        dice = random.Random(1)
        for kinds in (("word",), ("format",), ("border",), ("word", "format"), ("word", "format", "border"),
                      ("word", "word", "border")):
            for size, rounds in ((1, 6), (2, 3)):
                for _ in range(rounds):
                    grid = self.small(size, dice)
                    for at in range(dice.randrange(1, 7)):
                        row, column = dice.choice(dots_of_kind(size, kinds[at % len(kinds)]))
                        grid[row][column] = None
                    self.check(grid)

    def test_several_texts(self):
        """Size 1 with one check word: many fillings are read, to unlike texts."""
        dice = random.Random(2)
        most = 0
        for _ in range(12):
            grid = symbol(str(dice.randrange(10)), size=1, level=0, mask=dice.randrange(8))
            for row, column in dice.sample(PATHS[1], 6):
                grid[row][column] = None
            most = max(most, len(self.check(grid)))
        self.assertGreater(most, 2)

    def test_texts_that_differ_in_a_word(self):
        """The dots in which the symbols of two texts differ, and nothing else, are lost."""
        grids = [symbol(text, size=1, level=0, mask=5) for text in "0123456789"]
        found = 0
        for at, one in enumerate(grids):
            for other in grids[:at]:
                unlike = [dot for dot in walking.all_dots(1) if one[dot[0]][dot[1]] != other[dot[0]][dot[1]]]
                if len(unlike) <= 6:
                    grid = [list(dots) for dots in one]
                    for row, column in unlike:
                        grid[row][column] = None
                    texts = [text for text, _ in self.check(grid)]
                    self.assertIn(read(one)[0], texts)
                    self.assertIn(read(other)[0], texts)
                    found += 1
        self.assertGreater(found, 3)

    def test_no_lost_dots(self):
        for size in SIZES:
            grid = symbol("", size=size, level=3, mask=1)
            self.assert_same(fillings(grid), [("", 1)])
            for row, column in FORMAT_DOTS[size]:
                grid[row][column] = 0
            self.assert_same(fillings(grid), self.check(grid))

    def test_large_symbols(self):
        for size in (3, 4, 5):
            grid = symbol("HELLO", size=size, level=1, mask=2)
            for row, column in PATHS[size][7:11] + FORMAT_DOTS[size][:1] + [(0, 0)]:
                grid[row][column] = None
            self.assert_same(fillings(grid), [("HELLO", 64)])

    def test_lost_border_dots_count(self):
        grid = symbol("7", size=1)
        last = SIDES[1] - 1
        for many, (row, column) in enumerate(((0, 0), (last, last), (3, 0), (0, 5), (last, 2), (4, last))):
            grid[row][column] = None
            self.assert_same(fillings(grid=tuple(tuple(dots) for dots in grid)), [("7", 2 ** (many + 1))])
        grid[0][1] = None
        self.assert_refused(TooLarge, {"limit": 6}, fillings, grid)

    def test_refused_ones_stand_first(self):
        grid = symbol("7", size=1, level=0, mask=0)
        for row, column in PATHS[1][12:16]:
            grid[row][column] = None
        got = self.check(grid)
        self.assertIsNone(got[0][0])
        self.assertEqual(got[1:], sorted(got[1:]))
        self.assertIn(("7", 1), got)

    def test_answers_are_new_and_lists_asked_anew(self):
        grid = symbol("7", size=1, level=0, mask=0)
        grid[3][3] = None
        self.assert_asked_anew(fillings, grid)
        self.assertIsNone(grid[3][3])
        grid[3][3] = 0
        self.assertEqual(sum(many for _, many in fillings(grid)), 1)

    def test_too_many_lost_dots(self):
        for size in SIZES:
            grid = symbol("", size=size)
            for kind in ("word", "format", "border"):
                spoilt = [list(dots) for dots in grid]
                dots = dots_of_kind(size, kind)
                for row, column in dots[:7]:
                    spoilt[row][column] = None
                self.assert_refused(TooLarge, {"limit": 6}, fillings, spoilt)
                spoilt[dots[0][0]][dots[0][1]] = grid[dots[0][0]][dots[0][1]]
                if size < 3:
                    self.check(spoilt)
            self.assert_refused(TooLarge, {"limit": 6}, fillings, [[None] * SIDES[size]] * SIDES[size])

    def test_no_grid(self):
        for size in SIZES:
            grid = [[None] * SIDES[size] for _ in range(SIDES[size])]
            for thing, row, column in no_grids(grid):
                self.assert_refused(NoGrid, {"row": row, "column": column}, fillings, thing)
        self.assert_refused(NoGrid, {"row": -1, "column": -1}, fillings, [[None] * 10] * 10)


if __name__ == "__main__":
    unittest.main()
