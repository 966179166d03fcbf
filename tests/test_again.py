"""Point 2 over the whole program: answers that are changed within, and what is asked behind that."""

import random

from dotquilts import (
    codes, desks, distances, fields, finding, fitting, formats, masks, misread, paths, pictures, pieces, poses, reading,
    series, sizes, stains, symbols, views,
)
from tests import drawing
from tests.asking import Asking, lists_of
from tests.test_stains import random_data
from tests.walking import LEVELS, PATHS, SIZES, WORDS

CODE = (4, 2, 0)
ROWS = series.series("HELLO WORLD, 12345 abc", 2, 0)
PICTURE = finding.painted([[0] * 20 for _ in range(20)], (1, 2, 1, 2, 1, True), symbols.symbol("7"))
PLACE = (1, 2, 1, 2, 1, True)


def grid_of(size):
    return drawing.symbol_of(size, 1, 3, [7] * drawing.data_count(size, 1))


def lost_grid(size):
    grid = grid_of(size)
    grid[0][1] = grid[5][5] = grid[6][6] = None
    return grid


# For each function that tells lists or dicts, or tuples with such, what it is asked with.
ASKED = [
    (fields.poly_product, (4, [1, 2], (3, 4))), (fields.divided, (8, [1, 2, 3, 4], [5, 6])),
    (codes.check_words, (CODE, [1, 2])), (codes.syndromes, (CODE, [1, 3, 7])), (codes.repaired, (CODE, [1, None, 2])),
    (codes.twins, (CODE, 5, 2, 1)), (codes.rows_within, (CODE, [1, 3, 0], 2)), (codes.weights, (CODE, 9)),
    (codes.outcomes, (CODE, 9, 2)), (pieces.bits_of, ([(1, "12"), (3, "a")],)), (pieces.best_pieces, ("HELLO 12 a",)),
    (reading.text_of, ([1, 0, 0, 0, 0, 0, 1, 0, 0, 1, 0, 1, 0],)), (fitting.data_row, ("HELLO", 2, 0)),
    (fitting.data_words, ("HELLO", 2, 0)), (fitting.words_text, (2, fitting.data_words("HELLO", 2, 0))),
    (distances.dot_weights, (CODE, 4)), (distances.lightest, (CODE, 4)),
    (distances.nearest_rows, (CODE, [0, None] * 6)),
    (distances.least_unlike, (1, (0, 1), (0, 1))), (distances.least_unlike, (1, (0, 1), (0, 2))),
    (distances.least_unlike, (1, (0, 1), (2, 2))), (distances.unlike_counts, (2, (0, 1), [1] * 16, (3, 0))),
    (misread.fate, (1, 0, 3, [1, 2, 3], [(3, 5), (5, 5)])), (misread.least_lies, (2, 1)), (misread.fates, (1, 1)),
    (misread.pen_least, (1, 0, 0, [1, 2, 3])), (misread.safest, (1, 2, 0)),
    (series.parts, ("HELLO WORLD, 12345 abc", 2, 0)), (series.series, ("HELLO WORLD, 12345 abc", 2, 0)),
    (series.mixtures, (["a", "b"], ["b", "a"])), (series.part_of, (ROWS[0],)), (series.lost, (ROWS[:2],)),
    (finding.places, (PICTURE,)), (finding.read_all, (PICTURE,)), (finding.cut, (PICTURE, PLACE)),
    (finding.painted, (PICTURE, (3, 3, 2, 1, 2, False), grid_of(2))), (symbols.fillings, (lost_grid(1),)),
]


def asked_of_size(size):
    """The same for all functions that are asked with a size, or a grid of it."""
    words = list(range(min(WORDS[size], 16))) + [1] * max(WORDS[size] - 16, 0)
    data = [3] * drawing.data_count(size, 1)
    blocks = paths.gathered(size, 1, words)
    wish = {PATHS[size][2]: 1, PATHS[size][40 % len(PATHS[size])]: 0, (0, 0): 1}
    text = views.picture_of(size, lost_grid(size))
    lost, lying = PATHS[size][:9], PATHS[size][9:16]
    return [
        (sizes.block_sizes, (size,)), (sizes.border, (size,)), (sizes.strips, (size,)), (paths.path, (size,)),
        (paths.dots_of, (size, 1)), (paths.words_in, (size, lost_grid(size))), (paths.with_words, (size, words)),
        (paths.dealt, (size, 1, blocks)), (paths.gathered, (size, 1, words)), (paths.block_words, (size, 1)),
        (formats.format_dots, (size, 2, 5)), (formats.nearest_format, (size, grid_of(size))),
        (masks.masked, (size, lost_grid(size), 4)), (masks.penalty_parts, (size, grid_of(size))),
        (masks.drawn, (size, 1, 2, words)), (symbols.symbol_of, (size, 1, 6, data)),
        (symbols.read_words, (lost_grid(size),)), (poses.turned, (lost_grid(size), 1)),
        (poses.turned, (grid_of(size), 0)),
        (poses.mirrored, (lost_grid(size),)), (poses.posed, (lost_grid(size), (3, True))),
        (poses.posed, (grid_of(size), (0, False))), (poses.unposed, (lost_grid(size), (1, False))),
        (poses.border_faults, (grid_of(size), (1, True))), (poses.poses, (grid_of(size),)),
        (poses.straight, (grid_of(size),)), (stains.harm, (size, 1, lost, lying)), (stains.borne, (size, 1, lost)),
        (stains.greatest_square, (size, 1, "lost")), (stains.harmful_squares, (size, 1, "lying", 4)),
        (stains.lines_borne, (size, 1, "lost")), (stains.least_harmful, (size, 1, "lying")),
        (stains.lookalikes, (size, 1, PATHS[size])), (pictures.drawing, (size, 1, 2, wish)),
        (pictures.drawing, (size, 1, 2, {(0, 1): 1})), (pictures.sure_dots, (size, 1, 2, wish)),
        (pictures.masks_for, (size, 1, wish)), (pictures.free_dots, (size, 1, PATHS[size])),
        (pictures.tied, (size, 1, PATHS[size])), (views.read_picture, (size, text)),
    ]


class Again(Asking):

    def test_answers_that_are_changed_within(self):
        for call, told in ASKED:
            self.assert_asked_anew(call, *told)

    def test_answers_of_all_sizes(self):
        for size in SIZES:
            for call, told in asked_of_size(size):
                self.assert_asked_anew(call, *told)

    def test_texts(self):
        for size in SIZES[1:]:
            self.assert_asked_anew(symbols.symbol, "AB1", size=size, level=1)
            self.assert_asked_anew(symbols.read, symbols.symbol("AB1", size=size))
            self.assert_asked_anew(pictures.text_pattern, "AB1", size, 1)
            self.assert_asked_anew(pictures.text_drawings, "AB1", size, 1, {PATHS[size][3]: 1, (0, 0): 1})

    def test_whatever_was_asked_before(self):
        """Equal arguments give equal results, in whatever order they are asked."""
        dice = random.Random(1)
        asked = ASKED + [told for size in SIZES for told in asked_of_size(size)]
        first = [repr(call(*told)) for call, told in asked]
        order = list(range(len(asked)))
        for _ in range(2):
            dice.shuffle(order)
            for at in order:
                call, told = asked[at]
                self.assertEqual(repr(call(*told)), first[at])

    def test_what_is_changed_in_place_is_asked_anew(self):
        dice = random.Random(2)
        for size in SIZES:
            for level in LEVELS:
                data = random_data(size, level, dice)
                grid = symbols.symbol_of(size, level, 2, data)
                kept = symbols.symbol_of(size, level, 2, data)
                self.assertEqual(symbols.read_words(grid)[3:], (data, []))
                grid[3][3] = None
                self.assertEqual(symbols.read_words(grid)[3:], (data, [(3, 3)])
                                 if stains.is_harmless(size, level, [(3, 3)]) else symbols.read_words(grid)[3:])
                grid[3][3] = kept[3][3]
                self.assertEqual(symbols.read_words(grid)[3:], (data, []))
                data[0] ^= 1
                self.assertNotEqual(symbols.symbol_of(size, level, 2, data), kept)

    def test_desks(self):
        desk = desks.Desk(2, 1, 4)
        desk.put(PATHS[2][0], 1)
        for call in (desk.wish_now, desk.answer_now, desk.sure_now):
            kept = repr(call())
            for one in lists_of(call()):
                one.clear()
            self.assertEqual(repr(call()), kept)
