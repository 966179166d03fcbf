"""Points 24 and 25: the path, the words on it, and how the words of the blocks are dealt."""

import random
import unittest

from dotquilts.errors import NoBlock, NoDot, NoGrid, NoIndex, NoLevel, NoSize, NoWords
from dotquilts.paths import (
    block_words, dealt, dots_of, gathered, index_at, path, spot_of, with_words, word_of, words_in,
)
from tests import walking
from tests.asking import GREAT, Asking, no_dots, no_grids, no_rows, numbers_beyond, odd_values
from tests.walking import BITS, BLOCK_WORDS, BLOCKS, CHECKS, LEVELS, PATHS, SIDES, SIZES, WORDS

PLACES = [(size, level) for size in SIZES for level in LEVELS]


def words_for(size, seed, lost=0):
    """A row of words, so many of which are lost."""
    dice = random.Random(seed)
    words = [dice.randrange(2 ** BITS[size]) for _ in range(WORDS[size])]
    for at in dice.sample(range(WORDS[size]), lost):
        words[at] = None
    return words


def block_rows(size, seed):
    dice = random.Random(seed)
    return [[dice.randrange(2 ** BITS[size]) for _ in range(many)] for many in BLOCKS[size]]


class Path(Asking):

    def test_dot_by_dot(self):
        for size in SIZES:
            self.assert_same(path(size), PATHS[size])
            self.assertEqual(len(path(size)), BITS[size] * WORDS[size])
            inner = {dot for dot in walking.all_dots(size) if dot not in walking.border(size)}
            formats = set(walking.strips(size)[0] + walking.strips(size)[1])
            self.assertEqual(set(path(size)), inner - formats)

    def test_size_one_written_out(self):
        self.assert_same(path(1), [(6, 6), (6, 5), (5, 6), (5, 5), (4, 6), (4, 5), (3, 6), (3, 5), (2, 6), (2, 5),
                                   (3, 4), (3, 3), (4, 4), (4, 3), (5, 4), (6, 4)])
        self.assert_same(dots_of(1, 2), [(2, 6), (2, 5), (3, 4), (3, 3)])
        self.assert_same(word_of(1, (5, 4)), (3, 2))

    def test_dots_of_all_words(self):
        for size in SIZES:
            found = []
            for index in range(WORDS[size]):
                dots = dots_of(size, index)
                self.assert_same(dots, PATHS[size][index * BITS[size]:(index + 1) * BITS[size]])
                found += dots
            self.assertEqual(found, PATHS[size])

    def test_words_of_all_dots(self):
        for size in SIZES:
            for dot in walking.all_dots(size):
                wanted = None
                if dot in PATHS[size]:
                    place = PATHS[size].index(dot)
                    wanted = (place // BITS[size], place % BITS[size])
                    self.assertEqual(dots_of(size, wanted[0])[wanted[1]], dot)
                self.assert_same(word_of(size, dot), wanted)

    def test_arguments_by_name_and_new_answers(self):
        self.assertEqual(path(size=1), path(1))
        self.assertEqual(dots_of(index=3, size=5), dots_of(5, 3))
        self.assertEqual(word_of(dot=(6, 6), size=1), (0, 0))
        for size in SIZES:
            self.assert_asked_anew(path, size)
            self.assert_asked_anew(dots_of, size, WORDS[size] - 1)
            told = path(size)
            told.clear()
            self.assertEqual(word_of(size, PATHS[size][-1]), (WORDS[size] - 1, BITS[size] - 1))


class Words(Asking):

    def test_there_and_back(self):
        for size in SIZES:
            most = 2 ** BITS[size] - 1
            rows = [words_for(size, seed) for seed in range(5)]
            rows += [[0] * WORDS[size], [most] * WORDS[size], [1] * WORDS[size], [most // 2 + 1] * WORDS[size]]
            for words in rows:
                grid = with_words(size, words)
                self.assert_same(grid, walking.with_words(size, words))
                self.assert_same(with_words(size, tuple(words)), grid)
                self.assert_same(words_in(size, grid), words)
                self.assert_same(words_in(size, tuple(tuple(dots) for dots in grid)), words)

    def test_lost_dots(self):
        dice = random.Random(4)
        for size in SIZES:
            words = words_for(size, 3)
            for many in (1, 2, 5, 12):
                grid = with_words(size, words)
                wanted = list(words)
                for dot in dice.sample(PATHS[size], many):
                    grid[dot[0]][dot[1]] = None
                    wanted[PATHS[size].index(dot) // BITS[size]] = None
                self.assert_same(words_in(size, grid), wanted)

    def test_each_dot_of_a_word_counts(self):
        for size in (1, 3):
            for place, (row, column) in enumerate(PATHS[size]):
                grid = with_words(size, [0] * WORDS[size])
                grid[row][column] = None
                words = words_in(size, grid)
                self.assertEqual(words.count(None), 1)
                self.assertIsNone(words[place // BITS[size]])
                grid[row][column] = 1
                self.assertEqual(sum(words_in(size, grid)), 2 ** (BITS[size] - 1 - place % BITS[size]))

    def test_border_and_format_dots_do_not_matter(self):
        dice = random.Random(5)
        for size in SIZES:
            words = words_for(size, 6, 1)
            grid = with_words(size, [0 if word is None else word for word in words])
            row, column = PATHS[size][words.index(None) * BITS[size]]
            grid[row][column] = None
            for _ in range(10):
                for dot in walking.all_dots(size):
                    if dot not in PATHS[size]:
                        grid[dot[0]][dot[1]] = dice.choice((0, 1, None))
                self.assert_same(words_in(size, grid), words)
            everything_lost = [[None] * SIDES[size]] * SIDES[size]
            self.assert_same(words_in(size, everything_lost), [None] * WORDS[size])

    def test_arguments_by_name_and_new_answers(self):
        for size in SIZES:
            words = words_for(size, 7)
            grid = with_words(words=words, size=size)
            self.assertEqual(words_in(grid=grid, size=size), words)
            self.assert_asked_anew(with_words, size, words)
            self.assert_asked_anew(words_in, size, grid)
            self.assertEqual(grid, walking.with_words(size, words))
            row, column = PATHS[size][0]
            grid[row][column] = None
            self.assertEqual(words_in(size, grid), [None] + words[1:])
            words[-1] ^= 1
            self.assertEqual(with_words(size, words), walking.with_words(size, words))


class Dealt(Asking):

    def test_there_and_back(self):
        for size, level in PLACES:
            for seed in range(3):
                blocks = block_rows(size, seed)
                words = dealt(size, level, blocks)
                self.assert_same(words, walking.dealt(size, level, blocks))
                self.assert_same(dealt(size, level, tuple(tuple(block) for block in blocks)), words)
                self.assert_same(gathered(size, level, words), blocks)
                self.assert_same(gathered(size, level, tuple(words)), blocks)

    def test_lost_words_stay(self):
        for size, level in PLACES:
            for lost in (1, 2, WORDS[size]):
                words = words_for(size, lost, lost)
                wanted = [[words[index] for index in block] for block in BLOCK_WORDS[size, level]]
                self.assert_same(gathered(size, level, words), wanted)

    def test_places(self):
        for size, level in PLACES:
            self.assert_same(block_words(size, level), BLOCK_WORDS[size, level])
            for block, places in enumerate(BLOCK_WORDS[size, level]):
                for at, index in enumerate(places):
                    self.assert_same(spot_of(size, level, index), (block, at))
                    self.assert_same(index_at(size, level, block, at), index)
            spots = [spot_of(size, level, index) for index in range(WORDS[size])]
            self.assertEqual([index_at(size, level, *spot) for spot in spots], list(range(WORDS[size])))

    def test_written_out(self):
        self.assert_same(block_words(1, 0), [[0, 1, 2, 3]])
        self.assert_same(block_words(2, 3), [[0, 2] + list(range(4, 20, 2)), [1, 3] + list(range(5, 20, 2))])
        self.assert_same(block_words(5, 0)[0][15:], [45, 46, 49, 52, 55])
        self.assert_same(block_words(5, 0)[2][14:], [44, 48, 51, 54, 57])

    def test_facts(self):
        for size, level in PLACES:
            data = sum(BLOCKS[size]) - len(BLOCKS[size]) * CHECKS[size][level]
            for places, many in zip(block_words(size, level), BLOCKS[size]):
                own = many - CHECKS[size][level]
                self.assertTrue(all(index < data for index in places[:own]))
                self.assertTrue(all(index >= data for index in places[own:]))
            if size in (2, 4):
                self.assertEqual([spot_of(size, level, index)[0] for index in range(WORDS[size])],
                                 [0, 1] * (WORDS[size] // 2))

    def test_arguments_by_name_and_new_answers(self):
        for size, level in ((1, 3), (5, 2)):
            blocks = block_rows(size, 9)
            words = dealt(blocks=blocks, level=level, size=size)
            self.assertEqual(gathered(words=words, level=level, size=size), blocks)
            self.assertEqual(block_words(level=level, size=size), BLOCK_WORDS[size, level])
            self.assertEqual(spot_of(index=1, level=level, size=size), spot_of(size, level, 1))
            self.assertEqual(index_at(index=1, block=0, level=level, size=size), BLOCK_WORDS[size, level][0][1])
            self.assert_asked_anew(dealt, size, level, blocks)
            self.assert_asked_anew(gathered, size, level, words)
            self.assert_asked_anew(block_words, size, level)
            blocks[-1][-1] ^= 1
            self.assertEqual(dealt(size, level, blocks)[-1], words[-1] ^ 1)
            words[0] = None
            self.assertIsNone(gathered(size, level, words)[0][0])


class Refusals(Asking):

    def no_words(self, size, gaps=False):
        things = [thing for thing in odd_values() if thing is not None or not gaps]
        return things + numbers_beyond(0, 2 ** BITS[size] - 1)

    def test_no_size(self):
        for size in odd_values() + numbers_beyond(1, 5):
            told = {"size": size}
            self.assert_refused(NoSize, told, path, size)
            self.assert_refused(NoSize, told, path, size=size)
            for other in (None, 0, [], (6, 6), [0] * 4):
                for call in (dots_of, word_of, words_in, with_words, block_words):
                    self.assert_refused(NoSize, told, call, size, other)
                for call in (dealt, gathered, spot_of):
                    self.assert_refused(NoSize, told, call, size, 0, other)
                    self.assert_refused(NoSize, told, call, size, None, other)
                self.assert_refused(NoSize, told, index_at, size, None, other, 0)

    def test_no_level(self):
        for level in odd_values() + numbers_beyond(0, 3):
            for size in SIZES:
                self.assert_refused(NoLevel, {"level": level}, block_words, size, level)
                for other in (None, 0, [], [0] * WORDS[size]):
                    for call in (dealt, gathered, spot_of):
                        self.assert_refused(NoLevel, {"level": level}, call, size, level, other)
                    self.assert_refused(NoLevel, {"level": level}, index_at, size, level, other, 0)

    def test_no_dot(self):
        for size in SIZES:
            for dot in no_dots(SIDES[size]):
                self.assert_refused(NoDot, {"dot": dot}, word_of, size, dot)

    def test_no_index(self):
        for size, level in PLACES:
            for index in odd_values() + numbers_beyond(0, WORDS[size] - 1):
                self.assert_refused(NoIndex, {"index": index}, dots_of, size, index)
                self.assert_refused(NoIndex, {"index": index}, spot_of, size, level, index)

    def test_no_grid(self):
        for size in SIZES:
            grid = with_words(size, words_for(size, 1))
            for thing, row, column in no_grids(grid):
                self.assert_refused(NoGrid, {"row": row, "column": column}, words_in, size, thing)
            for other in SIZES:
                if other != size:
                    self.assert_refused(NoGrid, {"row": -1, "column": -1}, words_in, other, grid)

    def check_no_words(self, size, gaps, call, *ahead):
        words = words_for(size, 2)
        things = no_rows() + [0, [], (), words[1:], words + [0], [None] * (WORDS[size] - 1), "0" * WORDS[size]]
        for thing in things:
            self.assert_refused(NoWords, {"index": -1}, call, *ahead, thing)
        for at, thing in enumerate(self.no_words(size, gaps)):
            index = at * 7 % WORDS[size]
            wrong = words[:index] + [thing] + [-1] * (WORDS[size] - index - 1)
            self.assert_refused(NoWords, {"index": index}, call, *ahead, wrong)
            self.assert_refused(NoWords, {"index": index}, call, *ahead, tuple(wrong))

    def test_no_words(self):
        for size in SIZES:
            self.check_no_words(size, False, with_words, size)
            for level in LEVELS:
                self.check_no_words(size, True, gathered, size, level)

    def test_no_blocks(self):
        for size, level in PLACES:
            blocks = block_rows(size, 3)
            things = no_rows() + [0, [], (), blocks[1:], blocks + blocks[:1], "0" * len(blocks), [None] * 9]
            for thing in things:
                self.assert_refused(NoWords, {"index": -1}, dealt, size, level, thing)
            last = len(blocks) - 1
            for block in range(last + 1):
                many = BLOCKS[size][block]
                behind = [None] * (last - block)
                for thing in odd_values() + [0, [0] * (many - 1), [None] * (many + 1), "0" * many]:
                    wrong = blocks[:block] + [thing] + behind
                    self.assert_refused(NoBlock, {"block": block, "index": -1}, dealt, size, level, wrong)
                for at, thing in enumerate(self.no_words(size)):
                    index = at * 7 % many
                    words = blocks[block][:index] + [thing] + [None] * (many - index - 1)
                    wrong = tuple(blocks[:block] + [words] + behind)
                    self.assert_refused(NoBlock, {"block": block, "index": index}, dealt, size, level, wrong)

    def test_no_place_in_a_block(self):
        for size, level in PLACES:
            last = len(BLOCKS[size]) - 1
            for block in odd_values() + numbers_beyond(0, last):
                for index in (0, None, -1, 99):
                    self.assert_refused(NoBlock, {"block": block, "index": index}, index_at, size, level, block, index)
            for block in range(last + 1):
                for index in odd_values() + numbers_beyond(0, BLOCKS[size][block] - 1) + [GREAT]:
                    self.assert_refused(NoBlock, {"block": block, "index": index}, index_at, size, level, block, index)


if __name__ == "__main__":
    unittest.main()
