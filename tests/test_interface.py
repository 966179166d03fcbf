"""The interface: where each name is defined, and by which names its arguments are passed."""

import importlib
import inspect
import re
import unittest

FUNCTIONS = """
fields: product(bits, one, other) quotient(bits, one, other) power(bits, one, times) exponent(bits, one)
fields: value(bits, words, at) poly_product(bits, one, other) divided(bits, words, other)
codes: check_words(code, words) syndromes(code, row) is_right(code, row) repaired(code, row)
codes: twins(code, length, lies, gaps) is_twins(code, length, lies, gaps, answer) rows_within(code, row, most)
codes: weights(code, length) outcomes(code, length, wrong)
sizes: side(size) word_bits(size) word_count(size) check_count(size, level) code_start(size, level)
sizes: data_count(size, level) data_bits(size, level) block_sizes(size) strips(size) border(size) kind_of(size, dot)
pieces: piece_bits(kind, many) least_bits(text) ways(text, bits) bits_of(pieces) best_pieces(text) is_best(pieces)
reading: text_of(bits) readable(many) rows_of(text, many)
fitting: data_row(text, size, level) data_words(text, size, level) room(text, size, level)
fitting: most_signs(size, level, kind) least_size(text, level) greatest_level(text, size) words_text(size, words)
paths: path(size) dots_of(size, index) word_of(size, dot) words_in(size, grid) with_words(size, words)
paths: dealt(size, level, blocks) gathered(size, level, words) block_words(size, level)
paths: spot_of(size, level, index) index_at(size, level, block, index)
formats: format_word(level, mask) unlike_format(size, grid, level, mask) format_dots(size, level, mask)
formats: nearest_format(size, grid)
masks: turns(mask, dot) masked(size, grid, mask) penalty_parts(size, grid) penalty(size, grid)
masks: drawn(size, level, mask, words) best_mask(size, level, words)
symbols: symbol_of(size, level, mask, data) symbol(text, *, size=None, level=0, mask=None) read_words(grid) read(grid)
symbols: fillings(grid)
poses: turned(grid, times) mirrored(grid) posed(grid, pose) unposed(grid, pose) border_faults(grid, pose)
poses: poses(grid, *, most=0) straight(grid) pose_distance(size)
finding: stands(picture, place) places(picture) read_all(picture) cut(picture, place) painted(picture, place, grid)
stains: is_harmless(size, level, lost=(), lying=()) harm(size, level, lost=(), lying=())
stains: check_harm(size, level, lost, lying, paper) borne(size, level, dots) greatest_square(size, level, kind)
stains: harmful_squares(size, level, kind, many) lines_borne(size, level, kind) least_harmful(size, level, kind)
stains: lookalikes(size, level, lost) are_lookalikes(size, level, lost, pair) fitting_count(size, level, lost)
pictures: drawing(size, level, mask, wish, *, bits=()) check_drawing(size, level, mask, wish, answer, *, bits=())
pictures: ways_to_draw(size, level, mask, wish, *, bits=()) sure_dots(size, level, mask, wish, *, bits=())
pictures: masks_for(size, level, wish, *, bits=()) free_dots(size, level, dots) rank_of(size, level, dots)
pictures: tied(size, level, dots) text_pattern(text, size, level) text_drawings(text, size, level, wish)
distances: dot_weights(code, length) unlike_counts(size, one, data, other) lightest(code, length, *, within=None)
distances: nearest_rows(code, dots) least_unlike(size, one, other)
misread: fate(size, level, mask, data, dots) least_lies(size, level) is_misleading(size, level, difference, dots)
misread: fates(size, level) pen_least(size, level, mask, data) safest(size, level, mask)
series: parity(text) mixtures_number(one, other) missing_parity(rows) parts(text, size, level) series(text, size, level)
series: mixtures(one, other) part_of(bits) lost(rows) joined(rows)
views: picture_of(size, grid) read_picture(size, text)
desks: Desk(size, level, mask)
"""
METHODS = ("put(self, dot, value)", "drop(self, dot)", "change_mask(self, mask)", "mask_now(self)", "wish_now(self)",
           "answer_now(self)", "sure_now(self)", "ways_now(self)", "undo(self)", "redo(self)")


class Interface(unittest.TestCase):

    def told(self):
        for line in FUNCTIONS.strip().split("\n"):
            module, rest = line.split(": ", 1)
            for name, arguments in re.findall(r"(\w+)\(((?:[^()]|\(\))*)\)", rest):
                yield module, name, arguments

    def test_each_is_defined_in_its_file(self):
        many = 0
        for module, name, arguments in self.told():
            with self.subTest(module=module, name=name):
                thing = getattr(importlib.import_module("dotquilts." + module), name)
                self.assertEqual(thing.__module__, "dotquilts." + module)
                self.assertEqual(str(inspect.signature(thing)), f"({arguments})")
            many += 1
        self.assertGreater(many, 100)

    def test_desk(self):
        from dotquilts.desks import Desk
        for told in METHODS:
            name = told.split("(")[0]
            self.assertEqual(name + str(inspect.signature(vars(Desk)[name])), told)


if __name__ == "__main__":
    unittest.main()
