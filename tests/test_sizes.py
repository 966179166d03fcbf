"""Points 22 and 23: the table of the sizes, the border, and the kinds of dots."""

import unittest

from dotquilts.errors import NoDot, NoLevel, NoSize
from dotquilts.sizes import (
    block_sizes, border, check_count, code_start, data_bits, data_count, kind_of, side, strips, word_bits, word_count,
)
from tests import walking
from tests.asking import GREAT, Asking, no_dots, odd_values

SIZES = range(1, 6)
LEVELS = range(4)

# The table of point 22: side, bits of a word, words of the blocks, check words and starts by levels.
TABLE = {
    1: (8, 4, [4], (1, 2, 3, 3), (0, 1, 3, 6)),
    2: (12, 4, [10, 10], (2, 4, 6, 8), (0, 2, 6, 3)),
    3: (16, 8, [22], (4, 8, 10, 12), (0, 60, 120, 180)),
    4: (20, 8, [19, 19], (4, 8, 10, 12), (0, 60, 120, 180)),
    5: (24, 8, [20, 19, 19], (4, 8, 10, 12), (0, 60, 120, 180)),
}
WORDS = {1: 4, 2: 20, 3: 22, 4: 38, 5: 58}
DATA = {1: (3, 2, 1, 1), 2: (16, 12, 8, 4), 3: (18, 14, 12, 10), 4: (30, 22, 18, 14), 5: (46, 34, 28, 22)}
DATA_BITS = {1: (12, 8, 4, 4), 2: (64, 48, 32, 16), 3: (144, 112, 96, 80), 4: (240, 176, 144, 112),
             5: (368, 272, 224, 176)}
BY_SIZE = (side, word_bits, word_count, block_sizes, border, strips)
BY_LEVEL = (check_count, code_start, data_count, data_bits)
FIRST_STRIP_OF_ONE = [(1, 1), (1, 2), (1, 3), (1, 4), (1, 5), (1, 6), (2, 1), (2, 2), (2, 3), (2, 4)]
SECOND_STRIP_OF_ONE = [(6, 1), (5, 1), (4, 1), (3, 1), (6, 2), (5, 2), (4, 2), (3, 2), (6, 3), (5, 3)]


class Table(Asking):

    def test_sizes(self):
        for size, (many, bits, blocks, _, _) in TABLE.items():
            self.assert_same(side(size), many)
            self.assert_same(word_bits(size), bits)
            self.assert_same(word_count(size), WORDS[size])
            self.assert_same(block_sizes(size), blocks)

    def test_levels(self):
        for size, (_, _, _, checks, starts) in TABLE.items():
            for level in LEVELS:
                self.assert_same(check_count(size, level), checks[level])
                self.assert_same(code_start(size, level), starts[level])
                self.assert_same(data_count(size, level), DATA[size][level])
                self.assert_same(data_bits(size, level), DATA_BITS[size][level])

    def test_counts_hang_together(self):
        for size in SIZES:
            self.assertEqual(sum(block_sizes(size)), word_count(size))
            word_dots = (side(size) - 2) ** 2 - 20
            self.assertEqual(word_count(size) * word_bits(size), word_dots)
            for level in LEVELS:
                checks = len(block_sizes(size)) * check_count(size, level)
                self.assertEqual(data_count(size, level) + checks, word_count(size))

    def test_arguments_by_name(self):
        for call in BY_SIZE:
            self.assertEqual(call(size=2), call(2))
        for call in BY_LEVEL:
            self.assertEqual(call(level=3, size=2), call(2, 3))
        self.assertEqual(kind_of(dot=(0, 0), size=1), "border")

    def test_answers_are_new(self):
        for size in SIZES:
            self.assert_asked_anew(block_sizes, size)
            self.assert_asked_anew(strips, size)
            edge = border(size)
            edge[(0, 0)] = 7
            del edge[(0, 1)]
            self.assertEqual(border(size), walking.border(size))


class Dots(Asking):

    def test_borders(self):
        for size in SIZES:
            answer = border(size)
            self.assert_same(answer, walking.border(size))
            self.assertEqual(len(answer), 4 * TABLE[size][0] - 4)

    def test_border_of_size_one(self):
        rows = ["#.#.#.#.", "#.......", "#......#", "#......#", "#.......", "#.......", "#......#", "########"]
        answer = border(1)
        for row, line in enumerate(rows):
            for column, sign in enumerate(line):
                if row in (0, 7) or column in (0, 7):
                    self.assert_same(answer[(row, column)], 1 if sign == "#" else 0)
                else:
                    self.assertNotIn((row, column), answer)

    def test_no_turn_and_no_mirror_leaves_a_border(self):
        for size in SIZES:
            last = side(size) - 1
            edge = border(size)
            poses = []
            for flip in (False, True):
                pose = {(row, last - column): worth for (row, column), worth in edge.items()} if flip else edge
                for _ in range(4):
                    poses.append(pose)
                    pose = {(column, last - row): worth for (row, column), worth in pose.items()}
                self.assertEqual(pose, poses[-4])
            for at in range(1, 8):
                self.assertNotEqual(poses[at], edge)

    def test_strips(self):
        for size in SIZES:
            self.assert_same(strips(size), walking.strips(size))
        self.assert_same(strips(1), [FIRST_STRIP_OF_ONE, SECOND_STRIP_OF_ONE])
        self.assert_same(strips(2)[1], [(row, 1) for row in range(10, 1, -1)] + [(10, 2)])

    def test_kinds_of_all_dots(self):
        for size in SIZES:
            edge = walking.border(size)
            first, second = walking.strips(size)
            counts = {"border": 0, "format": 0, "word": 0}
            for dot in walking.all_dots(size):
                wanted = "border" if dot in edge else "format" if dot in first + second else "word"
                self.assert_same(kind_of(size, dot), wanted)
                counts[wanted] += 1
            self.assertEqual(counts["format"], 20)
            self.assertEqual(counts["word"], WORDS[size] * TABLE[size][1])

    def test_changed_answers_change_no_later_kind(self):
        for size in SIZES:
            kinds = [kind_of(size, dot) for dot in walking.all_dots(size)]
            told = strips(size)
            edge = border(size)
            for strip in told:
                strip.clear()
            told.clear()
            edge.clear()
            self.assertEqual([kind_of(size, dot) for dot in walking.all_dots(size)], kinds)

    def test_borders_are_told_ascending(self):
        for size in SIZES:
            self.assertEqual(list(border(size)), sorted(walking.border(size)))


class Refusals(Asking):

    def no_sizes(self):
        return odd_values() + [-1, 0, 6, 7, 8, 12, GREAT, -GREAT]

    def test_no_size(self):
        for size in self.no_sizes():
            for call in BY_SIZE:
                self.assert_refused(NoSize, {"size": size}, call, size)
            for call in BY_LEVEL + (kind_of,):
                self.assert_refused(NoSize, {"size": size}, call, size, None)
                self.assert_refused(NoSize, {"size": size}, call, size, 0)

    def test_no_level(self):
        for size in SIZES:
            for level in odd_values() + [-1, 4, 5, GREAT, -GREAT]:
                for call in BY_LEVEL:
                    self.assert_refused(NoLevel, {"level": level}, call, size, level)

    def test_no_dot(self):
        for size in SIZES:
            many = TABLE[size][0]
            for dot in no_dots(many):
                self.assert_refused(NoDot, {"dot": dot}, kind_of, size, dot)

    def test_edges_of_sizes_and_levels(self):
        self.assertEqual((side(1), side(5)), (8, 24))
        self.assertEqual((check_count(5, 0), check_count(5, 3)), (4, 12))
        self.assertEqual((kind_of(1, (7, 7)), kind_of(5, (23, 0))), ("border", "border"))


if __name__ == "__main__":
    unittest.main()
