"""Points 32 and 33: symbols of data words and of texts, and reading them."""

import random
import unittest

from dotquilts.errors import NoGrid, NoLevel, NoMask, NoSize, NoText, NoWord, TooLong, Unmended, Unread
from dotquilts.fitting import data_words
from dotquilts.symbols import read, read_words, symbol, symbol_of
from tests import drawing, reckoning, walking, writing
from tests.asking import GREAT, Asking, no_grids, no_rows, no_texts, numbers_beyond, odd_values
from tests.drawing import FORMAT_DOTS, FORMATS, MASKS
from tests.walking import BITS, BLOCK_WORDS, BLOCKS, CHECKS, DATA_BITS, LEVELS, PATHS, SIDES, SIZES

NO_SIZES = odd_values() + numbers_beyond(1, 5)
NO_LEVELS = odd_values() + numbers_beyond(0, 3)
NO_MASKS = odd_values() + numbers_beyond(0, 7)
PLACES = [(size, level) for size in SIZES for level in LEVELS]
# For some sizes and levels all right rows of a block can be gone through.
FEW = [(1, 0), (1, 1), (1, 2), (1, 3), (2, 3)]
RIGHTS = {(size, level): reckoning.right_rows(drawing.code_of(size, level), BLOCKS[size][0]) for size, level in FEW}


def random_data(size, level, dice):
    return [dice.randrange(2 ** BITS[size]) for _ in range(drawing.data_count(size, level))]


def lose(grid, dots):
    for row, column in dots:
        grid[row][column] = None


def turn(grid, dots):
    for row, column in dots:
        grid[row][column] ^= 1


def harm_block(grid, size, level, block, lost, lies, dice):
    """So many words of a block get a lost dot, so many others lying ones alone; the dots that are harmed."""
    harmed = []
    for at, word in enumerate(dice.sample(range(BLOCKS[size][block]), lost + lies)):
        dots = drawing.word_dots(size, level, block, word)
        chosen = dice.sample(dots, dice.randrange(1, len(dots) + 1))
        # Of a word with a lost dot others may lie.
        lose(grid, chosen[:1] if at < lost else [])
        turn(grid, chosen[1:] if at < lost else chosen)
        harmed += chosen
    return harmed


def wrong_dots(size, grid, right):
    inner = range(1, SIDES[size] - 1)
    return [(row, column) for row in inner for column in inner if grid[row][column] != right[row][column]]


def by_rows(size, grid):
    """What read_words is to tell, by going through all formats and all right rows; what it cannot mend otherwise."""
    nearest = drawing.nearest_format(size, grid)
    if nearest is None:
        return "format", -1
    level, mask, _ = nearest
    words = walking.words_in(size, drawing.masked(size, grid, mask))
    data = []
    for block, places in enumerate(BLOCK_WORDS[size, level]):
        row = [words[index] for index in places]
        found = reckoning.nearest(drawing.code_of(size, level), row, RIGHTS[size, level])
        if found is None:
            return "block", block
        data += found[0][:len(row) - CHECKS[size][level]]
    return size, level, mask, data, wrong_dots(size, grid, drawing.symbol_of(size, level, mask, data))


class Drawn(Asking):

    def test_all_sizes_levels_and_masks(self):
        dice = random.Random(1)
        for size in SIZES:
            for level, mask in FORMATS:
                data = random_data(size, level, dice)
                grid = symbol_of(size, level, mask, data)
                self.assert_same(grid, drawing.symbol_of(size, level, mask, data))
                self.assert_same(symbol_of(size, level, mask, tuple(data)), grid)
                self.assert_same(read_words(grid), (size, level, mask, data, []))
                self.assert_same(read_words(tuple(tuple(dots) for dots in grid)), (size, level, mask, data, []))

    def test_arguments_by_name_and_new_answers(self):
        data = [1, 2, 3]
        grid = symbol_of(data=data, mask=5, level=0, size=1)
        self.assertEqual(grid, drawing.symbol_of(1, 0, 5, [1, 2, 3]))
        self.assert_asked_anew(symbol_of, 1, 0, 5, data)
        self.assertEqual(data, [1, 2, 3])
        data[0] = 15
        self.assertEqual(symbol_of(1, 0, 5, data), drawing.symbol_of(1, 0, 5, [15, 2, 3]))

    def test_no_size_no_level_no_mask(self):
        for size in NO_SIZES:
            for level, mask, data in ((0, 0, [0, 0, 0]), (None, None, None)):
                self.assert_refused(NoSize, {"size": size}, symbol_of, size, level, mask, data)
        for level in NO_LEVELS:
            for mask, data in ((0, [0, 0, 0]), (None, None)):
                self.assert_refused(NoLevel, {"level": level}, symbol_of, 1, level, mask, data)
        for mask in NO_MASKS:
            for data in ([0, 0, 0], None):
                self.assert_refused(NoMask, {"mask": mask}, symbol_of, 1, 0, mask, data)

    def test_no_data(self):
        dice = random.Random(2)
        for size, level in PLACES:
            data = random_data(size, level, dice)
            for thing in no_rows() + [0, GREAT, data[1:], data + [0], (0,) * (len(data) + 1), "0" * len(data)]:
                self.assert_refused(NoWord, {"part": "data", "index": -1}, symbol_of, size, level, 7, thing)
            for at, thing in enumerate(odd_values() + numbers_beyond(0, 2 ** BITS[size] - 1)):
                index = at % len(data)
                wrong = data[:index] + [thing] + [None] * (len(data) - index - 1)
                self.assert_refused(NoWord, {"part": "data", "index": index}, symbol_of, size, level, 0, wrong)
                self.assert_refused(NoWord, {"part": "data", "index": index}, symbol_of, size, level, 0, tuple(wrong))


class Texts(Asking):

    def best(self, size, level, data):
        grids = [drawing.symbol_of(size, level, mask, data) for mask in MASKS]
        costs = [sum(drawing.penalty_parts(grid)) for grid in grids]
        return costs.index(min(costs))

    def check(self, text, told, size, level, mask):
        """The symbol of a text with what is told of it has this size, level and mask, or the best one."""
        data = data_words(text, size, level)
        if mask is None:
            mask = self.best(size, level, data)
        grid = symbol(text, **told)
        self.assert_same(grid, drawing.symbol_of(size, level, mask, data))
        self.assert_same(read(grid), (text, size, level, mask, []))

    def test_size_level_and_mask_told(self):
        for size, level in PLACES:
            for mask in MASKS:
                text = "A1 b2"[:DATA_BITS[size][level] // 16]
                self.check(text, {"size": size, "level": level, "mask": mask}, size, level, mask)

    def test_without_a_mask(self):
        for size, level in PLACES:
            text = "1Ab"[:DATA_BITS[size][level] // 16]
            self.check(text, {"size": size, "level": level}, size, level, None)
            self.check(text, {"size": size, "level": level, "mask": None}, size, level, None)

    def test_without_a_size(self):
        chosen = set()
        for text in ("", "7", "HELLO", "a" * 14, "0" * 39, "a" * 30, "A" * 48):
            for level in LEVELS:
                sizes = [size for size in SIZES if writing.best(text)[0] <= DATA_BITS[size][level]]
                if not sizes:
                    continue
                chosen.add(sizes[0])
                self.check(text, {"level": level, "mask": 3}, sizes[0], level, 3)
                self.check(text, {"size": None, "level": level}, sizes[0], level, None)
                if level == 0:
                    self.check(text, {}, sizes[0], 0, None)
        self.assertEqual(chosen, set(SIZES))

    def test_texts_that_fill_a_symbol_and_one_sign_more(self):
        for size, level in PLACES:
            for sign, most in (("0", 103), ("A", 64), ("a", 51)):
                needs = [writing.best(sign * many)[0] for many in range(most + 1)]
                many = max(number for number in range(most) if needs[number] <= DATA_BITS[size][level])
                self.check(sign * many, {"size": size, "level": level, "mask": 6}, size, level, 6)
                told = {"bits": needs[many + 1] - DATA_BITS[size][level]}
                for mask in (None, 0):
                    self.assert_refused(TooLong, told, symbol, sign * (many + 1), size=size, level=level, mask=mask)
                if size == 5:
                    self.assert_refused(TooLong, told, symbol, sign * (many + 1), level=level)

    def test_one_bit_too_long(self):
        texts = ("A", "a" + "A" * 8, "A" * 25, "aaaa" + "A" * 35, "a" * 8 + "A" * 53)
        for size, text in zip(SIZES, texts):
            self.assert_refused(TooLong, {"bits": 1}, symbol, text, size=size)
            if size < 5:
                self.assertEqual(len(symbol(text)), SIDES[size + 1])
        self.assert_refused(TooLong, {"bits": 1}, symbol, texts[-1])
        self.assert_refused(TooLong, {"bits": 7 * 310 - 368}, symbol, "a" * 300)

    def test_written_out(self):
        grid = symbol("7", size=1, level=0, mask=0)
        self.assertEqual(len(grid), 8)
        self.assert_same(read(grid), ("7", 1, 0, 0, []))
        self.assert_same(symbol("7"), symbol(text="7", size=1, level=0, mask=None))
        self.assert_asked_anew(symbol, "7")

    def test_errors_in_their_order(self):
        for thing, index in no_texts():
            self.assert_refused(NoText, {"index": index}, symbol, thing)
            self.assert_refused(NoText, {"index": index}, symbol, thing, size=0, level=9, mask=9)
        for size in NO_SIZES:
            if size is not None:
                self.assert_refused(NoSize, {"size": size}, symbol, "7", size=size)
                self.assert_refused(NoSize, {"size": size}, symbol, "a" * 300, size=size, level=None, mask=8)
        for level in NO_LEVELS:
            self.assert_refused(NoLevel, {"level": level}, symbol, "7", level=level)
            self.assert_refused(NoLevel, {"level": level}, symbol, "a" * 300, size=1, level=level, mask=8)
        for mask in NO_MASKS:
            if mask is not None:
                self.assert_refused(NoMask, {"mask": mask}, symbol, "7", mask=mask)
                self.assert_refused(NoMask, {"mask": mask}, symbol, "a" * 300, mask=mask, size=1)


class Reading(Asking):

    def test_as_much_as_can_be_mended(self):
        dice = random.Random(3)
        for size in SIZES:
            for level, mask in FORMATS:
                checks = CHECKS[size][level]
                data = random_data(size, level, dice)
                right = drawing.symbol_of(size, level, mask, data)
                grid = [list(dots) for dots in right]
                harmed = []
                for block in range(len(BLOCKS[size])):
                    lies = dice.randrange(checks // 2 + 1)
                    harmed += harm_block(grid, size, level, block, checks - 2 * lies, lies, dice)
                formats = dice.sample(FORMAT_DOTS[size], dice.randrange(4))
                turn(grid, formats)
                self.assert_same(read_words(grid), (size, level, mask, data, sorted(harmed + formats)))

    def test_words_that_are_lost_alone_or_lie_alone(self):
        dice = random.Random(4)
        for size, level in PLACES:
            checks = CHECKS[size][level]
            for lost, lies in ((checks, 0), (checks % 2, checks // 2)):
                data = random_data(size, level, dice)
                grid = drawing.symbol_of(size, level, 4, data)
                harmed = []
                for block in range(len(BLOCKS[size])):
                    harmed += harm_block(grid, size, level, block, lost, lies, dice)
                self.assert_same(read_words(grid), (size, level, 4, data, sorted(harmed)))

    def test_one_lost_word_more(self):
        dice = random.Random(5)
        for size, level in PLACES:
            for block in range(len(BLOCKS[size])):
                grid = drawing.symbol_of(size, level, 1, random_data(size, level, dice))
                harm_block(grid, size, level, block, CHECKS[size][level] + 1, 0, dice)
                for call in (read_words, read):
                    self.assert_refused(Unmended, {"part": "block", "index": block}, call, grid)
                for later in range(block + 1, len(BLOCKS[size])):
                    lose(grid, drawing.word_dots(size, level, later, 0))
                self.assert_refused(Unmended, {"part": "block", "index": block}, read_words, grid)

    def test_one_lying_word_more(self):
        """It is refused, or another right symbol is within the bound; then just this one is told."""
        dice = random.Random(6)
        refused = 0
        for size, level in PLACES * 3:
            checks = CHECKS[size][level]
            block = dice.randrange(len(BLOCKS[size]))
            data = random_data(size, level, dice)
            grid = drawing.symbol_of(size, level, 2, data)
            lost = dice.randrange(checks % 2, checks + 1, 2)
            harm_block(grid, size, level, block, lost, (checks - lost) // 2 + 1, dice)
            try:
                told = read_words(grid)
            except Unmended as error:
                self.assertEqual((error.part, error.index), ("block", block))
                refused += 1
                continue
            self.assertEqual(told[:3], (size, level, 2))
            self.assertNotEqual(told[3], data)
            self.check_bound(size, level, block, grid, told)
        self.assertGreater(refused, 30)

    def check_bound(self, size, level, block, grid, told):
        self.assertEqual(told[4], wrong_dots(size, grid, drawing.symbol_of(*told[:4])))
        lost, lies = 0, 0
        for at in range(BLOCKS[size][block]):
            dots = drawing.word_dots(size, level, block, at)
            gap = any(grid[row][column] is None for row, column in dots)
            lost += gap
            lies += not gap and any(dot in told[4] for dot in dots)
        self.assertLessEqual(lost + 2 * lies, CHECKS[size][level])

    def test_small_symbols_by_all_rows(self):
        dice = random.Random(7)
        counts = {"format": 0, "block": 0, "told": 0}
        for size, level in FEW * 20:
            mask = dice.choice(MASKS)
            grid = drawing.symbol_of(size, level, mask, random_data(size, level, dice))
            turn(grid, dice.sample(PATHS[size], dice.randrange(4)))
            turn(grid, dice.sample(FORMAT_DOTS[size], dice.choice((0, 1, 2, 3, 3))))
            lose(grid, dice.sample(PATHS[size], dice.randrange(3)))
            lose(grid, dice.sample(FORMAT_DOTS[size], dice.choice((0, 1, 5, 10, 16))))
            # Here some grids are read as symbols of other formats.
            nearest = drawing.nearest_format(size, grid)
            if nearest is not None and (size, nearest[0]) not in FEW:
                continue
            wanted = by_rows(size, grid)
            if len(wanted) == 2:
                self.assert_refused(Unmended, {"part": wanted[0], "index": wanted[1]}, read_words, grid)
                counts[wanted[0]] += 1
            else:
                self.assert_same(read_words(grid), wanted)
                counts["told"] += 1
        self.assertGreater(min(counts.values()), 4)

    def test_any_grids_of_size_one(self):
        dice = random.Random(8)
        for _ in range(60):
            grid = [[dice.choice((0, 1, 0, 1, None)) for _ in range(8)] for _ in range(8)]
            wanted = by_rows(1, grid)
            if len(wanted) == 2:
                self.assert_refused(Unmended, {"part": wanted[0], "index": wanted[1]}, read_words, grid)
            else:
                self.assert_same(read_words(grid), wanted)

    def test_format_dots(self):
        dice = random.Random(9)
        for size in SIZES:
            data = random_data(size, 1, dice)
            for many in (1, 5, 10):
                grid = drawing.symbol_of(size, 1, 7, data)
                dots = dice.sample(FORMAT_DOTS[size][10:], many)
                lose(grid, dots)
                turn(grid, FORMAT_DOTS[size][:1])
                self.assert_same(read_words(grid), (size, 1, 7, data, sorted(dots + FORMAT_DOTS[size][:1])))
            lose(grid, FORMAT_DOTS[size])
            self.assert_refused(Unmended, {"part": "format", "index": -1}, read_words, grid)
            # It comes ahead of each block.
            lose(grid, PATHS[size])
            for call in (read_words, read):
                self.assert_refused(Unmended, {"part": "format", "index": -1}, call, grid)

    def test_border_dots_change_nothing(self):
        dice = random.Random(10)
        for size in SIZES:
            data = random_data(size, 0, dice)
            grid = drawing.symbol_of(size, 0, 3, data)
            turn(grid, PATHS[size][:1])
            for shades in ((None,), (0,), (1,), (0, 1, None)):
                for row, column in walking.border(size):
                    grid[row][column] = dice.choice(shades)
                if size > 1:
                    self.assert_same(read_words(grid), (size, 0, 3, data, PATHS[size][:1]))
                else:
                    self.assert_refused(Unmended, {"part": "block", "index": 0}, read_words, grid)

    def test_texts_of_what_is_told(self):
        grid = symbol("HELLO", size=2, level=1, mask=6)
        turn(grid, PATHS[2][4:6])
        lose(grid, FORMAT_DOTS[2][3:4])
        wrong = sorted(PATHS[2][4:6] + FORMAT_DOTS[2][3:4])
        self.assert_same(read(grid), ("HELLO", 2, 1, 6, wrong))
        self.assert_same(read(grid=tuple(tuple(dots) for dots in grid)), ("HELLO", 2, 1, 6, wrong))
        self.assert_asked_anew(read, grid)
        self.assert_asked_anew(read_words, grid)
        turn(grid, PATHS[2][4:6])
        self.assertEqual(read(grid), ("HELLO", 2, 1, 6, FORMAT_DOTS[2][3:4]))

    def test_unread(self):
        rows = ((1, 0, [4, 0, 0], 0, "count"), (1, 3, [7], 0, "short"), (2, 3, [4, 3, 4, 1], 0, "value"),
                (3, 3, [66, 232, 124] + [0] * 7, 11, "value"), (5, 3, [66, 255, 192] + [0] * 19, 11, "short"))
        for size, level, data, at, why in rows:
            grid = drawing.symbol_of(size, level, 0, data)
            self.assertEqual(self.unread_by_bits(size, data), (at, why))
            self.assert_refused(Unread, {"at": at, "why": why}, read, grid)
            self.assert_same(read_words(grid), (size, level, 0, data, []))
            for block in range(len(BLOCKS[size])):
                harm_block(grid, size, level, block, CHECKS[size][level] + 1, 0, random.Random(1))
            self.assert_refused(Unmended, {"part": "block", "index": 0}, read, grid)

    def unread_by_bits(self, size, data):
        with self.assertRaises(writing.Refused) as caught:
            writing.read([int(bit) for word in data for bit in format(word, "b").zfill(BITS[size])])
        return caught.exception.args

    def test_no_grid(self):
        dice = random.Random(11)
        for size in SIZES:
            grid = drawing.symbol_of(size, 0, 0, random_data(size, 0, dice))
            for thing, row, column in no_grids(grid):
                for call in (read_words, read):
                    self.assert_refused(NoGrid, {"row": row, "column": column}, call, thing)
        for many in (0, 1, 7, 9, 10, 14, 18, 22, 25, 28):
            for call in (read_words, read):
                self.assert_refused(NoGrid, {"row": -1, "column": -1}, call, [[0] * many] * many)
        for many, other in ((8, 12), (12, 8), (24, 20)):
            self.assert_refused(NoGrid, {"row": 0, "column": -1}, read, [[0] * other] * many)


if __name__ == "__main__":
    unittest.main()
