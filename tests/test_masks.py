"""Points 27, 28 and 30: masks, penalties, and drawn symbols."""

import random
import unittest

from dotquilts.errors import NoDot, NoGrid, NoLevel, NoMask, NoSize, NoWords
from dotquilts.masks import best_mask, drawn, masked, penalty, penalty_parts, turns
from tests import drawing, walking
from tests.asking import GREAT, Asking, no_dots, no_grids, no_rows, numbers_beyond, odd_values
from tests.drawing import FORMATS, MASKS, RULES
from tests.walking import BITS, LEVELS, PATHS, SIDES, SIZES, WORDS

NO_SIZES = odd_values() + numbers_beyond(1, 5)
NO_LEVELS = odd_values() + numbers_beyond(0, 3)
NO_MASKS = odd_values() + numbers_beyond(0, 7)


def random_grid(size, dice, shades=(0, 1)):
    return [[dice.choice(shades) for _ in range(SIDES[size])] for _ in range(SIDES[size])]


def random_words(size, dice):
    return [dice.randrange(2 ** BITS[size]) for _ in range(WORDS[size])]


class Turns(Asking):

    def test_all_dots(self):
        for mask in MASKS:
            for row in range(24):
                for column in range(24):
                    self.assert_same(turns(mask, (row, column)), 1 if RULES[mask](row, column) else 0)

    def test_written_out(self):
        # The first dots of row 1, mask by mask.
        rows = ["0101010", "0100100", "1111111", "1100110", "1100110", "1001001", "1000110", "1100001"]
        for mask, text in enumerate(rows):
            self.assertEqual([turns(mask, (1, column)) for column in range(7)], [int(sign) for sign in text])
        self.assertEqual(turns(dot=(0, 0), mask=0), 1)

    def test_grids(self):
        dice = random.Random(1)
        for size in SIZES:
            for mask in MASKS:
                grid = random_grid(size, dice, (0, 1, None))
                got = masked(size, grid, mask)
                self.assert_same(got, drawing.masked(size, grid, mask))
                self.assert_same(masked(size, tuple(tuple(dots) for dots in grid), mask), got)
                self.assert_same(masked(size, got, mask), grid)

    def test_word_dots_alone_are_turned(self):
        for size in SIZES:
            for mask in MASKS:
                got = masked(size, [[0] * SIDES[size]] * SIDES[size], mask)
                for row, column in walking.all_dots(size):
                    word = (row, column) in PATHS[size]
                    self.assertEqual(got[row][column], 1 if word and RULES[mask](row, column) else 0)

    def test_lost_dots_stay(self):
        for size in SIZES:
            lost = [[None] * SIDES[size] for _ in range(SIDES[size])]
            for mask in MASKS:
                self.assert_same(masked(size, lost, mask), lost)

    def test_answers_are_new_and_lists_asked_anew(self):
        grid = random_grid(1, random.Random(2))
        kept = [list(dots) for dots in grid]
        self.assertEqual(masked(mask=4, grid=grid, size=1), drawing.masked(1, grid, 4))
        self.assert_asked_anew(masked, 1, grid, 4)
        self.assertEqual(grid, kept)
        grid[3][4] ^= 1
        self.assertEqual(masked(1, grid, 4), drawing.masked(1, grid, 4))


class Penalties(Asking):

    def check(self, size, grid):
        wanted = drawing.penalty_parts(grid)
        self.assert_same(penalty_parts(size, grid), wanted)
        self.assert_same(penalty_parts(size, tuple(tuple(dots) for dots in grid)), wanted)
        self.assert_same(penalty(size, grid), sum(wanted))
        return wanted

    def test_one_shade(self):
        for size, many in SIDES.items():
            for shade in (0, 1):
                wanted = self.check(size, [[shade] * many for _ in range(many)])
                self.assertEqual(wanted, (2 * many * (many - 2), 3 * (many - 1) ** 2, 20))

    def test_stripes(self):
        for size, many in SIDES.items():
            across = [[row % 2] * many for row in range(many)]
            down = [[column % 2 for column in range(many)] for _ in range(many)]
            for grid in (across, down):
                self.assertEqual(self.check(size, grid), (many * (many - 2), 0, 0))
            for wide in (2, 3, 4, 5, 6, 7):
                self.check(size, [[row // wide % 2] * many for row in range(many)])
                self.check(size, [[column // wide % 2 for column in range(many)] for _ in range(many)])
                self.check(size, [[(row + column // wide) % 2 for column in range(many)] for row in range(many)])
                self.check(size, [[(row // wide + column) % 2 for column in range(many)] for row in range(many)])

    def test_checkers_cost_nothing(self):
        for size, many in SIDES.items():
            grid = [[(row + column) % 2 for column in range(many)] for row in range(many)]
            self.assertEqual(self.check(size, grid), (0, 0, 0))

    def test_runs_of_each_length_everywhere(self):
        for size in (1, 2, 5):
            many = SIDES[size]
            for length in range(1, many + 1):
                for at in sorted({0, 1, many - length, (many - length) // 2}):
                    if at + length <= many:
                        for row in (0, 3, many - 1):
                            self.check_run(size, row, at, length)

    def check_run(self, size, row, at, length):
        """A stretch in a row of checkers, and the same in a column."""
        many = SIDES[size]
        grid = [[(one + other) % 2 for other in range(many)] for one in range(many)]
        for column in range(at, at + length):
            grid[row][column] = 1
        wanted = self.check(size, grid)
        upright = [[grid[other][one] for other in range(many)] for one in range(many)]
        self.assertEqual(self.check(size, upright), wanted)

    def test_the_end_of_a_row_and_the_next_row_are_no_stretch(self):
        many = SIDES[1]
        grid = [[(row + column) % 2 for column in range(many)] for row in range(many)]
        grid[2][-3:], grid[3][:3] = [1, 1, 1], [1, 1, 1]
        self.assertEqual(self.check(1, grid)[0], 0)

    def test_balance(self):
        for size, many in SIDES.items():
            for dark in range(many * many + 1):
                flat = [1] * dark + [0] * (many * many - dark)
                grid = [flat[at:at + many] for at in range(0, many * many, many)]
                wanted = 20 * abs(many * many - 2 * dark) // (many * many)
                self.assert_same(penalty_parts(size, grid)[2], wanted)

    def test_any_grids_and_drawn_ones(self):
        dice = random.Random(3)
        for size in SIZES:
            for shades in ((0, 1), (0, 0, 0, 1), (1, 1, 1, 1, 1, 0)):
                for _ in range(20):
                    self.check(size, random_grid(size, dice, shades))
            for level, mask in FORMATS[::4]:
                self.check(size, drawing.drawn(size, level, mask, random_words(size, dice)))

    def test_arguments_by_name_and_lists_asked_anew(self):
        grid = [[0] * 8 for _ in range(8)]
        self.assertEqual(penalty_parts(grid=grid, size=1), (96, 147, 20))
        self.assertEqual(penalty(grid=grid, size=1), 263)
        grid[0][0] = 1
        self.assertEqual(penalty_parts(1, grid), drawing.penalty_parts(grid))


class Drawn(Asking):

    def test_dot_by_dot(self):
        dice = random.Random(4)
        for size in SIZES:
            for level, mask in FORMATS:
                words = random_words(size, dice)
                grid = drawn(size, level, mask, words)
                self.assert_same(grid, drawing.drawn(size, level, mask, words))
                self.assert_same(drawn(size, level, mask, tuple(words)), grid)

    def test_best_masks(self):
        dice = random.Random(5)
        chosen = set()
        for size in SIZES:
            most = 2 ** BITS[size] - 1
            rows = [random_words(size, dice) for _ in range(8)] + [[0] * WORDS[size], [most] * WORDS[size]]
            for level in LEVELS:
                for words in rows:
                    costs = [sum(drawing.penalty_parts(drawing.drawn(size, level, mask, words))) for mask in MASKS]
                    self.assert_same(best_mask(size, level, words), costs.index(min(costs)))
                    chosen.add(costs.index(min(costs)))
        self.assertGreater(len(chosen), 5)

    def test_the_first_of_several(self):
        """Small symbols often have several masks with the least penalty."""
        dice = random.Random(6)
        several = 0
        for _ in range(100):
            words = random_words(1, dice)
            costs = [sum(drawing.penalty_parts(drawing.drawn(1, 0, mask, words))) for mask in MASKS]
            several += costs.count(min(costs)) > 1
            self.assert_same(best_mask(1, 0, tuple(words)), costs.index(min(costs)))
        self.assertGreater(several, 5)

    def test_arguments_by_name_and_new_answers(self):
        words = random_words(2, random.Random(7))
        self.assertEqual(drawn(words=words, mask=1, level=2, size=2), drawing.drawn(2, 2, 1, words))
        self.assertEqual(best_mask(words=words, level=2, size=2), best_mask(2, 2, words))
        self.assert_asked_anew(drawn, 2, 2, 1, words)
        words[3] ^= 1
        self.assertEqual(drawn(2, 2, 1, words), drawing.drawn(2, 2, 1, words))


class Refusals(Asking):

    def test_no_size(self):
        for size in NO_SIZES:
            told = {"size": size}
            for other in (None, 0, []):
                self.assert_refused(NoSize, told, masked, size, other, None)
                self.assert_refused(NoSize, told, penalty_parts, size, other)
                self.assert_refused(NoSize, told, penalty, size, other)
                self.assert_refused(NoSize, told, drawn, size, None, None, other)
                self.assert_refused(NoSize, told, best_mask, size, None, other)

    def test_no_mask(self):
        grid = [[0] * 8] * 8
        for mask in NO_MASKS:
            told = {"mask": mask}
            for dot in ((0, 0), None, (24, 0)):
                self.assert_refused(NoMask, told, turns, mask, dot)
            self.assert_refused(NoMask, told, masked, 1, grid, mask)
            for words in ([0] * 4, None, []):
                self.assert_refused(NoMask, told, drawn, 1, 3, mask, words)

    def test_no_dot(self):
        for mask in MASKS:
            for dot in no_dots(24):
                self.assert_refused(NoDot, {"dot": dot}, turns, mask, dot)
        self.assertEqual(turns(2, (22, 23)), 1)

    def test_no_level(self):
        for level in NO_LEVELS:
            for words in ([0] * 4, None, []):
                self.assert_refused(NoLevel, {"level": level}, drawn, 1, level, None, words)
                self.assert_refused(NoLevel, {"level": level}, best_mask, 1, level, words)

    def test_no_grid(self):
        dice = random.Random(8)
        for size in SIZES:
            for thing, row, column in no_grids(random_grid(size, dice)):
                told = {"row": row, "column": column}
                self.assert_refused(NoGrid, told, masked, size, thing, None)
                self.assert_refused(NoGrid, told, penalty_parts, size, thing)
                self.assert_refused(NoGrid, told, penalty, size, thing)

    def test_lost_dots_have_no_penalty(self):
        for size in SIZES:
            many = SIDES[size]
            for row, column in walking.all_dots(size)[::5]:
                grid = [[0] * many for _ in range(many)]
                grid[row][column] = None
                told = {"row": row, "column": column}
                for call in (penalty_parts, penalty):
                    self.assert_refused(NoGrid, told, call, size, grid)
                    # What is wrong behind it does not come first, what is wrong ahead of it does.
                    self.assert_refused(NoGrid, told, call, size, grid[:row] + [grid[row]] + [None] * (many - row - 1))
                    behind = grid[row][:column] + [None] + [2] * (many - column - 1)
                    self.assert_refused(NoGrid, told, call, size, grid[:row] + [behind] + grid[row + 1:])
                    if row > 0:
                        self.assert_refused(NoGrid, {"row": row - 1, "column": -1}, call, size,
                                            grid[:row - 1] + [grid[0][1:]] + grid[row:])
                    if column > 0:
                        ahead = [True] + grid[row][1:]
                        self.assert_refused(NoGrid, {"row": row, "column": 0}, call, size,
                                            grid[:row] + [ahead] + grid[row + 1:])
                self.assertEqual(masked(size, grid, 0)[row][column], None)

    def test_no_words(self):
        dice = random.Random(9)
        for size in SIZES:
            words = random_words(size, dice)
            for thing in no_rows() + [0, GREAT, [], (), words[1:], words + [0], "0" * WORDS[size]]:
                self.assert_refused(NoWords, {"index": -1}, drawn, size, 0, 0, thing)
                self.assert_refused(NoWords, {"index": -1}, best_mask, size, 0, thing)
            for at, thing in enumerate(odd_values() + numbers_beyond(0, 2 ** BITS[size] - 1)):
                index = at * 7 % WORDS[size]
                wrong = words[:index] + [thing] + [-1] * (WORDS[size] - index - 1)
                self.assert_refused(NoWords, {"index": index}, drawn, size, 3, 7, wrong)
                self.assert_refused(NoWords, {"index": index}, best_mask, size, 3, tuple(wrong))


if __name__ == "__main__":
    unittest.main()
