"""Point 29: the words of the formats, and the nearest one."""

import random
import unittest
from itertools import combinations

from dotquilts.errors import NoGrid, NoLevel, NoMask, NoSize
from dotquilts.formats import format_dots, format_word, nearest_format, unlike_format
from tests import drawing
from tests.asking import Asking, no_grids, numbers_beyond, odd_values
from tests.drawing import FORMAT_DOTS, FORMATS, format_bits
from tests.walking import LEVELS, SIDES, SIZES

NO_LEVELS = odd_values() + numbers_beyond(0, 3)
NO_MASKS = odd_values() + numbers_beyond(0, 7)


def blank(size, dice):
    """A grid with anything at all in it."""
    return [[dice.choice((0, 1, None)) for _ in range(SIDES[size])] for _ in range(SIDES[size])]


def with_format(size, level, mask, dice):
    grid = blank(size, dice)
    for (row, column), bit in zip(FORMAT_DOTS[size], format_bits(level, mask) * 2):
        grid[row][column] = bit
    return grid


class Words(Asking):

    def test_all_words(self):
        for level, mask in FORMATS:
            wanted = int("".join(str(bit) for bit in format_bits(level, mask)), 2)
            self.assert_same(format_word(level, mask), wanted)
        self.assertEqual(format_word(0, 0), 709)
        # u = 1: 32 less 53 is 21 without the highest bit, so the word is 32 + 21, exclusive or 709.
        self.assertEqual(format_word(mask=1, level=0), 53 ^ 709)

    def test_any_two_are_unlike_at_four_bits(self):
        words = [format_word(level, mask) for level, mask in FORMATS]
        for one, other in combinations(words, 2):
            self.assertGreaterEqual(format(one ^ other, "b").count("1"), 4)
        self.assertNotIn(0, words)
        self.assertNotIn(1023, words)

    def test_dots(self):
        for size in SIZES:
            for level, mask in FORMATS:
                wanted = dict(zip(FORMAT_DOTS[size], format_bits(level, mask) * 2))
                self.assert_same(format_dots(size, level, mask), wanted)
                self.assertEqual(len(wanted), 20)
        told = format_dots(mask=3, level=2, size=1)
        told.clear()
        self.assertEqual(len(format_dots(1, 2, 3)), 20)


class Nearest(Asking):

    def check(self, size, grid):
        wanted = drawing.nearest_format(size, grid)
        self.assert_same(nearest_format(size, grid), wanted)
        self.assert_same(nearest_format(size, tuple(tuple(dots) for dots in grid)), wanted)
        for level, mask in FORMATS[::3]:
            got = unlike_format(size, grid, level, mask)
            self.assert_same(got, drawing.unlike_format(size, grid, level, mask))
        return wanted

    def test_up_to_three_lying_dots_are_always_mended(self):
        dice = random.Random(1)
        for size in SIZES:
            for level, mask in FORMATS:
                for lies in (0, 1, 2, 3):
                    grid = with_format(size, level, mask, dice)
                    for row, column in dice.sample(FORMAT_DOTS[size], lies):
                        grid[row][column] ^= 1
                    self.assert_same(self.check(size, grid), (level, mask, lies))
                    self.assert_same(unlike_format(size, grid, level, mask), lies)

    def test_each_single_dot(self):
        dice = random.Random(2)
        for size in SIZES:
            grid = with_format(size, 2, 5, dice)
            for row, column in FORMAT_DOTS[size]:
                grid[row][column] ^= 1
                self.assert_same(nearest_format(size, grid), (2, 5, 1))
                grid[row][column] ^= 1

    def test_lost_dots_are_unlike_nothing(self):
        dice = random.Random(3)
        told = 0
        for size in SIZES:
            for _ in range(60):
                level, mask = dice.choice(FORMATS)
                grid = with_format(size, level, mask, dice)
                dots = dice.sample(FORMAT_DOTS[size], dice.randrange(20))
                lies = dice.randrange(4)
                for at, (row, column) in enumerate(dots):
                    grid[row][column] = grid[row][column] ^ 1 if at < lies else None
                told += self.check(size, grid) is not None
        self.assertTrue(50 < told < 290)

    def test_one_strip_lost(self):
        dice = random.Random(4)
        for size in SIZES:
            for level, mask in FORMATS:
                grid = with_format(size, level, mask, dice)
                for row, column in FORMAT_DOTS[size][:10]:
                    grid[row][column] = None
                self.assert_same(nearest_format(size, grid), (level, mask, 0))
                row, column = dice.choice(FORMAT_DOTS[size][10:])
                grid[row][column] ^= 1
                self.assert_same(nearest_format(size, grid), (level, mask, 1))

    def test_equally_near_formats(self):
        dice = random.Random(5)
        for size in SIZES:
            lost = [[None] * SIDES[size] for _ in range(SIDES[size])]
            self.assertIsNone(nearest_format(size, lost))
            self.assertEqual([unlike_format(size, lost, level, mask) for level, mask in FORMATS], [0] * 32)
            for one, other in dice.sample(list(combinations(FORMATS, 2)), 20):
                # One strip tells the one format, the other strip the other one.
                grid = blank(size, dice)
                bits = format_bits(*one) + format_bits(*other)
                for (row, column), bit in zip(FORMAT_DOTS[size], bits):
                    grid[row][column] = bit
                self.assertIsNone(self.check(size, grid))

    def test_anything_at_all(self):
        dice = random.Random(6)
        for size in SIZES:
            for _ in range(40):
                self.check(size, blank(size, dice))

    def test_other_dots_do_not_matter(self):
        dice = random.Random(7)
        for size in SIZES:
            for _ in range(10):
                self.assert_same(nearest_format(size, with_format(size, 1, 6, dice)), (1, 6, 0))

    def test_arguments_by_name_and_lists_asked_anew(self):
        grid = with_format(1, 3, 7, random.Random(8))
        self.assertEqual(nearest_format(grid=grid, size=1), (3, 7, 0))
        self.assertEqual(unlike_format(mask=7, level=3, grid=grid, size=1), 0)
        row, column = FORMAT_DOTS[1][4]
        grid[row][column] ^= 1
        self.assertEqual(nearest_format(1, grid), (3, 7, 1))


class Refusals(Asking):

    def test_no_size(self):
        for size in odd_values() + numbers_beyond(1, 5):
            told = {"size": size}
            self.assert_refused(NoSize, told, format_dots, size, 0, 0)
            self.assert_refused(NoSize, told, format_dots, size, None, None)
            self.assert_refused(NoSize, told, nearest_format, size, None)
            self.assert_refused(NoSize, told, unlike_format, size, None, None, None)

    def test_no_grid(self):
        dice = random.Random(9)
        for size in SIZES:
            for thing, row, column in no_grids(blank(size, dice)):
                told = {"row": row, "column": column}
                self.assert_refused(NoGrid, told, nearest_format, size, thing)
                self.assert_refused(NoGrid, told, unlike_format, size, thing, None, None)

    def test_no_level_and_no_mask(self):
        grid = blank(2, random.Random(10))
        for level in NO_LEVELS:
            for mask in (0, None, 8):
                self.assert_refused(NoLevel, {"level": level}, format_word, level, mask)
                self.assert_refused(NoLevel, {"level": level}, format_dots, 1, level, mask)
                self.assert_refused(NoLevel, {"level": level}, unlike_format, 2, grid, level, mask)
        for mask in NO_MASKS:
            for level in LEVELS:
                self.assert_refused(NoMask, {"mask": mask}, format_word, level, mask)
                self.assert_refused(NoMask, {"mask": mask}, format_dots, 5, level, mask)
                self.assert_refused(NoMask, {"mask": mask}, unlike_format, 2, grid, level, mask)


if __name__ == "__main__":
    unittest.main()
